package bag

import (
	"bytes"
	"math/rand/v2"
	"slices"
	"strconv"
	"strings"
	"testing"

	"pollard/api"
	"pollard/delta"
	"pollard/disk"
	"pollard/enc"
	"pollard/pack"
	"pollard/sha"
)

// check fails the test unless a call answered as it should.
func check(t *testing.T, call string, got, want api.Errno) {
	t.Helper()
	if got != want {
		t.Fatalf("%s answers %d, not %d", call, got, want)
	}
}

func open(t *testing.T, d *disk.Disk) *Bag {
	t.Helper()
	b, err := Open(d)
	check(t, "Open", err, api.OK)
	return b
}

// openFails fails the test unless Open answers an error, and no bag beside it.
func openFails(t *testing.T, d *disk.Disk, want api.Errno) {
	t.Helper()
	b, err := Open(d)
	check(t, "Open", err, want)
	if b != nil {
		t.Fatal("Open answers a bag beside an error")
	}
}

func put(t *testing.T, b *Bag, texts ...string) {
	t.Helper()
	for _, text := range texts {
		id, err := b.Put([]byte(text))
		check(t, "Put", err, api.OK)
		if id != idOf(text) {
			t.Fatalf("Put of %q answers another ID", text)
		}
	}
}

// putFails fails the test unless Put answers an error, and the zero ID beside it.
func putFails(t *testing.T, b *Bag, text string, want api.Errno) {
	t.Helper()
	id, err := b.Put([]byte(text))
	check(t, "Put", err, want)
	if id != (api.ID{}) {
		t.Fatal("Put answers an ID beside an error")
	}
}

// getFails fails the test unless Get answers an error, and no bytes beside it.
func getFails(t *testing.T, b *Bag, id api.ID, want api.Errno) {
	t.Helper()
	x, err := b.Get(id)
	check(t, "Get", err, want)
	if x != nil {
		t.Fatalf("Get answers %q beside an error", x)
	}
}

func install(t *testing.T, b *Bag, x []byte, want int) {
	t.Helper()
	n, err := b.Install(x)
	check(t, "Install", err, api.OK)
	if n != want {
		t.Fatalf("Install answers %d, not %d", n, want)
	}
}

// installFails fails the test unless Install answers an error, and 0 beside it.
func installFails(t *testing.T, b *Bag, x []byte, want api.Errno) {
	t.Helper()
	n, err := b.Install(x)
	check(t, "Install", err, want)
	if n != 0 {
		t.Fatalf("Install answers %d beside an error", n)
	}
}

func idOf(text string) api.ID {
	return sha.Sum([]byte(text))
}

// idsOf returns the IDs of some texts in increasing order.
func idsOf(texts ...string) []api.ID {
	var ids []api.ID
	for _, text := range texts {
		ids = append(ids, idOf(text))
	}
	slices.SortFunc(ids, sha.Cmp)
	return ids
}

// file is the name of the file of a loose object with this text.
func file(text string) string {
	return "o/" + sha.Hex(idOf(text))
}

// packOf returns a pack of some texts.
func packOf(texts ...string) []byte {
	return packOn(nil, texts...)
}

// packOn returns a pack of some texts, which can be based on others.
func packOn(outside []string, texts ...string) []byte {
	var objects, bases [][]byte
	for _, text := range texts {
		objects = append(objects, []byte(text))
	}
	for _, text := range outside {
		bases = append(bases, []byte(text))
	}
	x, err := pack.Write(objects, bases)
	if err != api.OK {
		panic("no pack")
	}
	return x
}

// write writes a file, as a program beside the bag would.
func write(t *testing.T, d *disk.Disk, name string, x []byte) {
	t.Helper()
	check(t, "Create", d.Create(name), api.OK)
	check(t, "Append", d.Append(name, x), api.OK)
	check(t, "Sync", d.Sync(name), api.OK)
	check(t, "disk's Flush", d.Flush(), api.OK)
}

// expect fails the test unless exactly these objects exist, and so many are loose and there are so many packs.
func expect(t *testing.T, b *Bag, loose, packs int, texts ...string) {
	t.Helper()
	if got := b.IDs(); !slices.Equal(got, idsOf(texts...)) {
		t.Fatalf("there are %v, not the IDs of %.300q", got, texts)
	}
	for _, text := range texts {
		x, err := b.Get(idOf(text))
		if err != api.OK || string(x) != text || !b.Has(idOf(text)) {
			t.Fatalf("Get of %.50q answers %.50q, %d", text, x, err)
		}
	}
	if b.Loose() != loose || b.Packs() != packs {
		t.Fatalf("there are %d loose objects and %d packs, not %d and %d", b.Loose(), b.Packs(), loose, packs)
	}
	for _, id := range []api.ID{{}, idOf("no such object")} {
		getFails(t, b, id, api.ErrNone)
		if b.Has(id) {
			t.Fatalf("there is an object %v", id)
		}
	}
}

// expectFiles fails the test unless the disk has exactly the files of some loose objects and packs.
func expectFiles(t *testing.T, d *disk.Disk, loose []string, packs ...string) {
	t.Helper()
	for _, text := range loose {
		packs = append(packs, file(text))
	}
	slices.Sort(packs)
	if got := d.Names(); !slices.Equal(got, packs) {
		t.Fatalf("the disk has %q, not %q", got, packs)
	}
}

// stepsOf returns how many steps a call takes, as found by letting the power fail.
func stepsOf(t *testing.T, prepare func() (*Bag, *disk.Disk), call func(b *Bag)) int {
	t.Helper()
	for n := range 100 {
		b, d := prepare()
		d.Fail(n + 1)
		call(b)
		if !d.Down() {
			return n
		}
	}
	t.Fatal("a call takes 100 steps")
	return 0
}

// P9.1: the examples of the chapter.
func TestExample(t *testing.T) {
	b := open(t, disk.New(1000))
	put(t, b, "a", "b")
	expect(t, b, 2, 0, "a", "b")
	check(t, "Repack", b.Repack(), api.OK)
	expect(t, b, 0, 1, "a", "b")
	check(t, "Sweep", b.Sweep(idsOf("a")), api.OK)
	expect(t, b, 0, 1, "a")
	install(t, b, packOf("a"), 0)
	expect(t, b, 0, 1, "a")
}

// P9.1: an empty bag.
func TestEmpty(t *testing.T) {
	d := disk.New(100)
	b := open(t, d)
	expect(t, b, 0, 0)
	check(t, "Repack", b.Repack(), api.OK)
	check(t, "Sweep", b.Sweep(nil), api.OK)
	install(t, b, packOf(), 0)
	check(t, "Flush", b.Flush(), api.OK)
	check(t, "Sweep", b.Sweep([]api.ID{{}}), api.ErrNone)
	expect(t, b, 0, 0)
	expectFiles(t, d, nil)
}

// P9.1: the files of packs, and names that are none of theirs.
func TestOpen(t *testing.T) {
	d := disk.New(10_000)
	for _, name := range []string{"p/", "p", "p/0", "p/01", "p/+1", "p/-1", "p/1 ", "p/ 1", "p/1x", "p/0x1", "p/1_0", "p/4611686018427387904", "p/9223372036854775808",
		"p/99999999999999999999999", "P/1", "/p/1", "p//1", "1", "p/tmp", "p/\u0661", "o/1", "p/1/1", "p/1.0", "p/1e1"} {
		write(t, d, name, []byte("not a pack"))
	}
	expect(t, open(t, d), 0, 0)
	write(t, d, "p/7", packOf("a", "b"))
	write(t, d, "p/1000000000000", packOf())
	write(t, d, "p/4611686018427387903", packOf("b", "c"))
	write(t, d, file("c"), []byte("c"))
	write(t, d, file("d"), []byte("d"))
	expect(t, open(t, d), 2, 3, "a", "b", "c", "d")
}

// P9.1: files of packs that contain none, or one that is based on something outside.
func TestOpenBad(t *testing.T) {
	long := strings.Repeat("0123456789", 20)
	good := packOf("a", "b")
	bad := slices.Clone(good)
	bad[7] ^= 1
	for _, name := range []string{"p/1", "p/30", "p/4611686018427387903"} {
		for _, x := range [][]byte{nil, []byte("PLRD"), bad, good[:len(good)-1], append(slices.Clone(good), 0), packOn([]string{long}, long+"x")} {
			d := disk.New(10_000)
			write(t, d, "p/2", packOf("c"))
			write(t, d, file(long), []byte(long))
			write(t, d, name, x)
			openFails(t, d, api.ErrBad)
			d.Remove(name)
			expect(t, open(t, d), 1, 1, "c", long)
		}
	}
}

// P9.1: without power, Open cannot read packs.
func TestOpenDown(t *testing.T) {
	d := disk.New(1000)
	write(t, d, "p/1", packOf("a"))
	d.Fail(1)
	d.Flush()
	openFails(t, d, api.ErrDown)
	d.Crash(0, nil)
	expect(t, open(t, d), 0, 1, "a")
}

// P9.1: a new pack has a number of its own, which was not used since Open.
func TestNumbers(t *testing.T) {
	d := disk.New(10_000)
	b := open(t, d)
	install(t, b, packOf("a"), 1)
	install(t, b, packOf("b", "a"), 1)
	install(t, b, packOf("b", "a"), 0)
	expectFiles(t, d, nil, "p/1", "p/2")
	check(t, "Repack", b.Repack(), api.OK)
	expectFiles(t, d, nil, "p/3")
	check(t, "Sweep", b.Sweep(nil), api.OK)
	expectFiles(t, d, nil)
	expect(t, b, 0, 0)
	install(t, b, packOf("c"), 1)
	expectFiles(t, d, nil, "p/4")
	b = open(t, d)
	check(t, "Sweep", b.Sweep(nil), api.OK)
	install(t, b, packOf("d"), 1)
	expectFiles(t, d, nil, "p/5")
	check(t, "Sweep", b.Sweep(nil), api.OK)
	b = open(t, d)
	install(t, b, packOf("e"), 1)
	expectFiles(t, d, nil, "p/1")
	write(t, d, "p/900", packOf("f"))
	write(t, d, "p/01000", packOf("g"))
	b = open(t, d)
	install(t, b, packOf("h"), 1)
	expectFiles(t, d, nil, "p/1", "p/900", "p/901", "p/01000")
}

// P9.1: a pack that could not be written does not use its number up.
func TestNumberAfterError(t *testing.T) {
	d := disk.New(200)
	b := open(t, d)
	installFails(t, b, packOf(strings.Repeat("x", 100), strings.Repeat("y", 100)), api.ErrRoom)
	expectFiles(t, d, nil, "p/tmp")
	expect(t, b, 0, 0)
	install(t, b, packOf("a"), 1)
	expectFiles(t, d, nil, "p/1")
}

// P9.1 and P9.2: behind the greatest number there is none, and yet no object is lost.
func TestGreatestNumber(t *testing.T) {
	d := disk.New(10_000)
	write(t, d, "p/4611686018427387902", packOf("a"))
	b := open(t, d)
	install(t, b, packOf("b"), 1)
	expectFiles(t, d, nil, "p/4611686018427387902", "p/4611686018427387903")
	for _, text := range []string{"c", "d", "e"} {
		install(t, b, packOf(text), 1)
		put(t, b, "loose "+text)
	}
	expectFiles(t, d, []string{"loose c", "loose d", "loose e"}, "p/1", "p/2", "p/3", "p/4611686018427387902", "p/4611686018427387903")
	expect(t, open(t, d), 3, 5, "a", "b", "c", "d", "e", "loose c", "loose d", "loose e")
	check(t, "Repack", b.Repack(), api.OK)
	expect(t, b, 0, 1, "a", "b", "c", "d", "e", "loose c", "loose d", "loose e")
	d.Crash(0, nil)
	expect(t, open(t, d), 0, 1, "a", "b", "c", "d", "e", "loose c", "loose d", "loose e")
}

// P9.1: a number that is free again.
func TestFreeNumber(t *testing.T) {
	d := disk.New(10_000)
	for i, name := range []string{"p/1", "p/3", "p/4611686018427387903"} {
		write(t, d, name, packOf(strconv.Itoa(i)))
	}
	b := open(t, d)
	install(t, b, packOf("a"), 1)
	install(t, b, packOf("b"), 1)
	expectFiles(t, d, nil, "p/1", "p/2", "p/3", "p/4", "p/4611686018427387903")
	expect(t, b, 0, 5, "0", "1", "2", "a", "b")
	check(t, "Repack", b.Repack(), api.OK)
	expectFiles(t, d, nil, "p/5")
	expect(t, open(t, d), 0, 1, "0", "1", "2", "a", "b")
}

// P9.1: what is in a pack is not stored again, whether there is power or not.
func TestPut(t *testing.T) {
	d := disk.New(1000)
	b := open(t, d)
	install(t, b, packOf("a", ""), 2)
	put(t, b, "a", "", "b", "a", "b", "c")
	expect(t, b, 2, 1, "a", "", "b", "c")
	expectFiles(t, d, []string{"b", "c"}, "p/1")
	d.Fail(1)
	put(t, b, "a", "", "b")
	putFails(t, b, "d", api.ErrDown)
	put(t, b, "a", "")
	putFails(t, b, "b", api.ErrDown)
	putFails(t, b, "d", api.ErrDown)
}

// P9.1: the errors of a loose object's Put and Get.
func TestLooseErrors(t *testing.T) {
	d := disk.New(40)
	b := open(t, d)
	write(t, d, file("bad"), []byte("other"))
	putFails(t, b, "bad", api.ErrBad)
	getFails(t, b, idOf("bad"), api.ErrBad)
	getFails(t, b, idOf("none"), api.ErrNone)
	putFails(t, b, strings.Repeat("long", 20), api.ErrRoom)
	if !b.Has(idOf("bad")) || b.Has(idOf("none")) || b.Loose() != 1 || !slices.Equal(b.IDs(), idsOf("bad")) {
		t.Error("a loose object with other bytes does not exist")
	}
}

// P9.1: an object that is loose and in a pack is that of the pack.
func TestLooseAndPacked(t *testing.T) {
	d := disk.New(1000)
	put(t, open(t, d), "a", "b")
	write(t, d, "p/1", packOf("b", "c"))
	b := open(t, d)
	expect(t, b, 2, 1, "a", "b", "c")
	check(t, "Append", d.Append(file("b"), []byte("!")), api.OK)
	expect(t, b, 2, 1, "a", "b", "c")
	put(t, b, "b")
	install(t, b, packOf("b"), 0)
	if b.Reads() == 0 {
		t.Error("no loose object was read")
	}
	before := b.Reads()
	b.Get(idOf("b"))
	if b.Reads() != before {
		t.Error("the loose file of a packed object was read")
	}
}

// P9.1: without power.
func TestDown(t *testing.T) {
	d := disk.New(1000)
	b := open(t, d)
	install(t, b, packOf("a"), 1)
	put(t, b, "b")
	d.Fail(1)
	check(t, "Flush", b.Flush(), api.ErrDown)
	for _, text := range []string{"a", "b", "none"} {
		getFails(t, b, idOf(text), api.ErrDown)
		if b.Has(idOf(text)) != (text != "none") {
			t.Errorf("Has of %q without power", text)
		}
	}
	if !slices.Equal(b.IDs(), idsOf("a", "b")) || b.Loose() != 1 || b.Packs() != 1 {
		t.Error("without power there are other objects")
	}
	check(t, "Flush", b.Flush(), api.ErrDown)
	installFails(t, b, packOf("a"), api.ErrDown)
	installFails(t, b, packOf("b"), api.ErrDown)
	installFails(t, b, packOf("c"), api.ErrDown)
	installFails(t, b, []byte("no pack"), api.ErrForm)
	install(t, b, packOf(), 0)
	check(t, "Repack", b.Repack(), api.ErrDown)
	check(t, "Sweep", b.Sweep(nil), api.ErrDown)
	check(t, "Sweep", b.Sweep(idsOf("a")), api.ErrDown)
	check(t, "Sweep", b.Sweep(idsOf("none")), api.ErrNone)
	d.Crash(100, nil)
	expect(t, open(t, d), 1, 1, "a", "b")
}

// P9.1: Install of packs, based on loose and on packed objects.
func TestInstall(t *testing.T) {
	d := disk.New(10_000)
	b := open(t, d)
	x, y := strings.Repeat("0123456789", 10), strings.Repeat("abcdefghij", 10)
	put(t, b, x)
	onX := packOn([]string{x}, x+"1", x+"2", "c")
	installFails(t, open(t, disk.New(1000)), onX, api.ErrBase)
	install(t, b, onX, 3)
	expect(t, b, 1, 1, x, x+"1", x+"2", "c")
	install(t, b, packOf(y), 1)
	onBoth := packOn([]string{x, y}, x+"2", x+"3", "1"+y)
	if p, err := pack.Read(onBoth, b.find); err != api.OK || !slices.Equal(p.Outside(), idsOf(x, y)) {
		t.Fatalf("the test's pack is not based on both: %d", err)
	}
	install(t, b, onBoth, 2)
	install(t, b, onBoth, 0)
	expect(t, b, 1, 3, x, x+"1", x+"2", "c", y, x+"3", "1"+y)
	expectFiles(t, d, []string{x}, "p/1", "p/2", "p/3")
	d.Crash(0, nil)
	expect(t, open(t, d), 1, 3, x, x+"1", x+"2", "c", y, x+"3", "1"+y)
}

// find is what pack.Read asks for objects outside.
func (b *Bag) find(id api.ID) ([]byte, bool) {
	x, err := b.Get(id)
	return x, err == api.OK
}

// sealed returns bytes with the end of a pack.
func sealed(b []byte) []byte {
	return enc.Four(b, enc.Sum(b))
}

// P9.1: the errors of Read.
func TestInstallBad(t *testing.T) {
	d := disk.New(1000)
	b := open(t, d)
	put(t, b, "a")
	before := d.Names()
	good := packOf("b", "c")
	for i := range good {
		bad := slices.Clone(good)
		bad[i] ^= 4
		installFails(t, b, bad, api.ErrForm)
		installFails(t, b, good[:i], api.ErrForm)
	}
	diff, _ := delta.Make(nil, []byte("x"))
	id := idOf("a")
	entry := enc.Text(append([]byte{2}, id[:]...), string(diff))
	install(t, open(t, d), sealed(append([]byte("PLRD\x01"), entry...)), 1)
	b = open(t, d)
	check(t, "Sweep", b.Sweep(idsOf("a")), api.OK)
	expectBad := func(body string, want api.Errno) {
		installFails(t, b, sealed([]byte("PLRD"+body)), want)
	}
	expectBad("\x01\x03", api.ErrForm)
	expectBad("\x01\x01\x01\x00", api.ErrBase)
	expectBad("\x02\x00\x01b\x00\x01b", api.ErrTwice)
	expectBad("\x02\x00\x01b\x01\x01\x03\x01\x03\x01", api.ErrBase)
	chain := "\x0a\x00\x01b"
	for i := range 9 {
		chain += "\x01\x01\x03\x01\x02" + string(rune('c'+i))
	}
	expectBad(chain, api.ErrChain)
	expect(t, b, 0, 1, "a")
	if len(before) != 1 {
		t.Errorf("there were %q", before)
	}
}

// P9.1: of the objects that exist, the first one in order that is not as it should be counts.
func TestInstallExisting(t *testing.T) {
	texts := []string{"1", "2", "3", "4", "5", "6"}
	slices.SortFunc(texts, func(a, b string) int { x, y := idOf(a), idOf(b); return sha.Cmp(x, y) })
	for bad := range texts {
		d := disk.New(1000)
		put(t, open(t, d), texts[0], texts[3])
		d.Remove(file(texts[bad]))
		write(t, d, file(texts[bad]), []byte("other"))
		b := open(t, d)
		names := d.Names()
		d.Fail(1)
		installFails(t, b, packOf(texts...), api.ErrBad)
		if d.Down() || !slices.Equal(d.Names(), names) || b.Packs() != 0 {
			t.Errorf("Install has taken a step before its error")
		}
		d.Fail(0)
		rest := append(slices.Clone(texts[:bad]), texts[bad+1:]...)
		want := 3
		if bad == 0 || bad == 3 {
			want = 4
		}
		install(t, b, packOf(rest...), want)
		installFails(t, b, packOn([]string{texts[bad]}, texts[bad]+"!", texts[bad]), api.ErrBad)
	}
}

// P9.1: a base whose file has other bytes is none.
func TestInstallOnBadBase(t *testing.T) {
	long := strings.Repeat("0123456789", 10)
	d := disk.New(1000)
	write(t, d, file(long), []byte(long+"!"))
	b := open(t, d)
	installFails(t, b, packOn([]string{long}, long+"?"), api.ErrBase)
	expectFiles(t, d, []string{long})
}

// P9.1: Sweep keeps what it should, loose or packed, and removes all else.
func TestSweep(t *testing.T) {
	all := []string{"a", "b", "c", "d", "e", "f"}
	for mask := range 1 << len(all) {
		d := disk.New(10_000)
		b := open(t, d)
		write(t, d, "beside", []byte("stays"))
		put(t, b, "a", "b")
		install(t, b, packOf("c", "d"), 2)
		install(t, b, packOf("e", "f"), 2)
		var keep []string
		for i, text := range all {
			if mask>>i&1 == 1 {
				keep = append(keep, text)
			}
		}
		ids := idsOf(keep...)
		slices.Reverse(ids)
		check(t, "Sweep", b.Sweep(append(ids, ids...)), api.OK)
		packs, names := 0, []string{"beside"}
		if len(keep) > 0 {
			packs, names = 1, []string{"beside", "p/3"}
		}
		expectFiles(t, d, nil, names...)
		expect(t, b, 0, packs, keep...)
		d.Crash(0, nil)
		expect(t, open(t, d), 0, packs, keep...)
		put(t, b, all...)
		expect(t, b, len(all)-len(keep), packs, all...)
	}
}

// P9.1: nothing is done if there is nothing to do.
func TestSweepSettled(t *testing.T) {
	a, b, ab, none, both := idsOf("a"), idsOf("b"), idsOf("a", "b"), []api.ID(nil), []string{"a", "b"}
	for i, c := range []struct {
		loose   []string
		packs   [][]string
		keep    []api.ID
		settled bool
	}{
		{nil, nil, none, true}, {nil, [][]string{{}}, none, true}, {nil, [][]string{{}, {}}, none, false},
		{nil, [][]string{both}, ab, true}, {nil, [][]string{both}, append(ab, a...), true}, {nil, [][]string{both}, a, false},
		{nil, [][]string{both}, none, false}, {nil, [][]string{{"a"}, {"b"}}, ab, false}, {nil, [][]string{both, both}, ab, false},
		{[]string{"a"}, nil, a, false}, {[]string{"a"}, nil, none, false}, {[]string{"a"}, [][]string{both}, ab, false},
		{[]string{"c"}, [][]string{both}, ab, false}, {nil, [][]string{both, {}}, ab, false}, {nil, [][]string{{"b"}}, b, true},
	} {
		d := disk.New(1000)
		for _, text := range c.loose {
			write(t, d, file(text), []byte(text))
		}
		for i, texts := range c.packs {
			write(t, d, "p/"+strconv.Itoa(i+1), packOf(texts...))
		}
		d.Create("p/tmp")
		names := d.Names()
		bag := open(t, d)
		d.Fail(1)
		err := bag.Sweep(c.keep)
		if c.settled != (err == api.OK) || c.settled != !d.Down() || c.settled && !slices.Equal(names, d.Names()) {
			t.Errorf("case %d: Sweep answers %d", i, err)
		}
		d.Crash(9, nil)
		bag = open(t, d)
		check(t, "Sweep", bag.Sweep(c.keep), api.OK)
		d.Fail(1)
		check(t, "Sweep", bag.Sweep(c.keep), api.OK)
		check(t, "Repack", bag.Repack(), api.OK)
		d.Flush()
		check(t, "settled Sweep without power", bag.Sweep(c.keep), api.OK)
		check(t, "settled Repack without power", bag.Repack(), api.OK)
	}
}

// P9.1: the errors of Sweep, after which nothing is done.
func TestSweepErrors(t *testing.T) {
	d := disk.New(1000)
	b := open(t, d)
	put(t, b, "a", "b")
	install(t, b, packOf("c"), 1)
	write(t, d, file("bad"), []byte("other"))
	names := d.Names()
	for i, c := range []struct {
		keep []api.ID
		want api.Errno
	}{
		{idsOf("none"), api.ErrNone}, {[]api.ID{{}}, api.ErrNone}, {idsOf("a", "none"), api.ErrNone}, {idsOf("a", "b", "c", "none"), api.ErrNone},
		{idsOf("bad", "none"), api.ErrNone}, {idsOf("bad", "1", "2", "3", "4", "5"), api.ErrNone}, {idsOf("bad"), api.ErrBad},
		{idsOf("bad", "a", "c"), api.ErrBad}, {b.IDs(), api.ErrBad},
	} {
		d.Fail(1)
		if err := b.Sweep(c.keep); err != c.want || d.Down() {
			t.Errorf("case %d: Sweep answers %d, not %d", i, err, c.want)
		}
	}
	check(t, "Repack", b.Repack(), api.ErrBad)
	d.Fail(0)
	if !slices.Equal(d.Names(), names) {
		t.Error("Sweep has done something before its error")
	}
	check(t, "Sweep without the bad one", b.Sweep(idsOf("a", "b", "c")), api.OK)
	expect(t, b, 0, 1, "a", "b", "c")
	write(t, d, file("c"), []byte("other"))
	check(t, "Sweep of one that is bad as a loose one", b.Sweep(idsOf("a", "c")), api.ErrBad)
	check(t, "Sweep", b.Sweep(idsOf("a")), api.OK)
	expect(t, b, 0, 1, "a")
}

// P9.1: what no pack can hold is not packed, and nothing is lost.
func TestSweepTooLong(t *testing.T) {
	long := strings.Repeat("x", 1<<20+1)
	d := disk.New(1 << 22)
	b := open(t, d)
	put(t, b, "a", long)
	check(t, "Repack", b.Repack(), api.ErrLong)
	expect(t, b, 2, 0, "a", long)
	check(t, "Sweep", b.Sweep(idsOf("a")), api.OK)
	put(t, b, long[1:])
	check(t, "Repack", b.Repack(), api.OK)
	expect(t, b, 0, 1, "a", long[1:])
}

// P9.1: without space for the new pack, all objects stay.
func TestSweepWithoutRoom(t *testing.T) {
	d := disk.New(150)
	b := open(t, d)
	long := "abcdefghijklmnopqrstuvwxyz0123456789ABCDEFGHIJKLMNOPQRSTUVWXYZ????????????"
	put(t, b, "x", long)
	check(t, "Repack", b.Repack(), api.ErrRoom)
	expect(t, b, 2, 0, "x", long)
	check(t, "Sweep", b.Sweep(idsOf("x")), api.OK)
	expect(t, b, 0, 1, "x")
}

// P9.1: without a name for the new pack, all objects stay.
func TestManyFiles(t *testing.T) {
	d := disk.New(100_000)
	b := open(t, d)
	put(t, b, "a", "b")
	for i := range api.MaxFiles - 2 {
		check(t, "Create", d.Create(strconv.Itoa(i)), api.OK)
	}
	check(t, "Repack", b.Repack(), api.ErrMany)
	installFails(t, b, packOf("c"), api.ErrMany)
	expect(t, b, 2, 0, "a", "b")
	check(t, "Remove", d.Remove("0"), api.OK)
	check(t, "Repack", b.Repack(), api.OK)
	expect(t, b, 0, 1, "a", "b")
}

// P9.1: the number of steps.
func TestNumberOfSteps(t *testing.T) {
	prepared := func(names ...string) func() (*Bag, *disk.Disk) {
		return func() (*Bag, *disk.Disk) {
			d := disk.New(1000)
			b := open(t, d)
			for _, name := range names {
				switch {
				case name == "p/tmp":
					d.Create(name)
				case strings.HasPrefix(name, "pack "):
					install(t, b, packOf(name), 1)
				default:
					put(t, b, name)
				}
			}
			return b, d
		}
	}
	installA := func(b *Bag) { b.Install(packOf("a", "b")) }
	repack := func(b *Bag) { b.Repack() }
	sweep := func(b *Bag) { b.Sweep(nil) }
	for i, c := range []struct {
		prepare func() (*Bag, *disk.Disk)
		call    func(b *Bag)
		want    int
	}{
		{prepared(), installA, 5}, {prepared("p/tmp"), installA, 6}, {prepared("a"), installA, 5}, {prepared("a", "b", "p/tmp"), installA, 0},
		{prepared(), repack, 0}, {prepared("a", "b", "c"), repack, 5 + 3 + 1}, {prepared("pack 1", "p/tmp"), repack, 0},
		{prepared("pack 1", "a", "p/tmp"), repack, 6 + 2 + 1}, {prepared("pack 1", "pack 2", "pack 3"), repack, 5 + 3 + 1},
		{prepared("pack 1", "pack 2", "a", "b", "p/tmp"), sweep, 4 + 1}, {prepared("p/tmp"), sweep, 0},
		{prepared("pack 1", "a"), func(b *Bag) { b.Sweep(idsOf("a")) }, 5 + 2 + 1},
		{prepared("pack 1", "a"), func(b *Bag) {
			b.Has(idOf("a"))
			b.Get(idOf("a"))
			b.Get(idOf("pack 1"))
			b.IDs()
			b.Loose()
			b.Packs()
		}, 0},
		{prepared("pack 1", "a"), func(b *Bag) { b.Put([]byte("a")); b.Put([]byte("pack 1")) }, 0},
		{prepared("a"), func(b *Bag) { b.Flush() }, 1},
	} {
		if n := stepsOf(t, c.prepare, c.call); n != c.want {
			t.Errorf("case %d takes %d steps, not %d", i, n, c.want)
		}
	}
}

// P9.1: what there is when the power fails in a step of Sweep, in the order of the steps.
func TestStepsOfSweep(t *testing.T) {
	looseA, looseB := file("a"), file("b")
	if looseB < looseA {
		looseA, looseB = looseB, looseA
	}
	for i, want := range [][]string{
		{looseA, looseB, "p/1", "p/2"},
		{looseA, looseB, "p/1", "p/2", "p/tmp"},
		{looseA, looseB, "p/1", "p/2", "p/tmp"},
		{looseA, looseB, "p/1", "p/2", "p/tmp"},
		{looseA, looseB, "p/1", "p/2", "p/3"},
		{looseA, looseB, "p/1", "p/2", "p/3"},
		{looseA, looseB, "p/2", "p/3"},
		{looseA, looseB, "p/3"},
		{looseB, "p/3"},
		{"p/3"},
	} {
		d := disk.New(1000)
		b := open(t, d)
		put(t, b, "a", "b")
		install(t, b, packOf("c"), 1)
		install(t, b, packOf("d"), 1)
		d.Fail(i + 1)
		check(t, "Repack", b.Repack(), api.ErrDown)
		if got := d.Names(); !slices.Equal(got, want) {
			t.Errorf("without step %d there are %q", i+1, got)
		}
		packs := 0
		for _, name := range want {
			if strings.HasPrefix(name, "p/") && name != "p/tmp" {
				packs++
			}
		}
		if b.Packs() != packs || !slices.Equal(b.IDs(), idsOf("a", "b", "c", "d")) {
			t.Errorf("without step %d there are %d packs, and %d objects", i+1, b.Packs(), len(b.IDs()))
		}
	}
}

// P9.2: whatever is kept after a failure in any step of Install or Sweep, nothing is lost.
func TestCrash(t *testing.T) {
	old := []string{"a", "b", "c", "d"}
	calls := []func(b *Bag) api.Errno{
		func(b *Bag) api.Errno { return b.Repack() },
		func(b *Bag) api.Errno { return b.Sweep(idsOf("a", "c")) },
		func(b *Bag) api.Errno { _, err := b.Install(packOf("a", "c", "e")); return err },
	}
	for i, call := range calls {
		for fail := range 12 {
			for turns := range 9 {
				for _, keep := range []int{0, 5, 1000} {
					d := disk.New(1000)
					b := open(t, d)
					put(t, b, "a", "b")
					install(t, b, packOf("c"), 1)
					install(t, b, packOf("d"), 1)
					check(t, "Flush", b.Flush(), api.OK)
					d.Fail(fail)
					err := call(b)
					d.Crash(turns, []int{keep, keep, keep})
					b = open(t, d)
					for _, text := range old {
						x, e := b.Get(idOf(text))
						swept := i == 1 && (text == "b" || text == "d")
						if (e != api.OK || string(x) != text) && !swept {
							t.Fatalf("call %d, fail %d, turns %d: %q is lost", i, fail, turns, text)
						}
						if swept && err == api.OK && e != api.ErrNone {
							t.Fatalf("call %d, turns %d: %q is still there", i, turns, text)
						}
					}
					if i == 2 && err == api.OK && !b.Has(idOf("e")) {
						t.Fatalf("what was installed is lost")
					}
					check(t, "call after Crash", call(b), api.OK)
				}
			}
		}
	}
}

// P9.3: Repack changes nothing but where the objects are.
func TestRepack(t *testing.T) {
	r := rand.New(rand.NewPCG(9, 3))
	for range 50 {
		d := disk.New(100_000)
		b := open(t, d)
		var texts []string
		for i := range 1 + r.IntN(30) {
			text := strings.Repeat(strconv.Itoa(r.IntN(5)), r.IntN(40)) + strconv.Itoa(i)
			texts = append(texts, text)
			if r.IntN(2) == 0 {
				put(t, b, text)
			} else {
				install(t, b, packOn(texts[:i], text), 1)
			}
		}
		for range 2 {
			check(t, "Repack", b.Repack(), api.OK)
			expect(t, b, 0, 1, texts...)
			expect(t, open(t, d), 0, 1, texts...)
		}
	}
}

// P9.4: results are newly allocated, and arguments are not modified and not retained.
func TestMemory(t *testing.T) {
	d := disk.New(1000)
	b := open(t, d)
	memory := []byte("abcdef")
	_, err := b.Put(memory[:3])
	check(t, "Put", err, api.OK)
	clear(memory)
	x := packOf("packed", "other")
	before := slices.Clone(x)
	install(t, b, x, 2)
	if !bytes.Equal(x, before) {
		t.Error("Install has modified its argument")
	}
	clear(x)
	for _, text := range []string{"abc", "packed"} {
		first, _ := b.Get(idOf(text))
		clear(first[:cap(first)])
	}
	ids := b.IDs()
	clear(ids[:cap(ids)])
	expect(t, b, 1, 1, "abc", "packed", "other")
	keep := append(idsOf("packed", "abc"), idsOf("other")...)
	slices.Reverse(keep)
	order := slices.Clone(keep)
	check(t, "Sweep", b.Sweep(keep[:2]), api.OK)
	if !slices.Equal(keep, order) {
		t.Error("Sweep has modified its argument")
	}
	clear(keep)
	if len(b.IDs()) != 2 {
		t.Errorf("there are %d objects", len(b.IDs()))
	}
}

// trial is a bag with what is known of it: which objects exist and where, and which exist whatever a Crash keeps.
type trial struct {
	*testing.T
	r     *rand.Rand
	d     *disk.Disk
	b     *Bag
	loose map[string]bool
	packs map[string]map[string]bool // the texts of each file of a pack
	sure  map[string]bool
	last  int
}

// words are all texts of a trial. Most of them are alike, so that packs have deltas.
func words() []string {
	var out []string
	for i := range 14 {
		out = append(out, strings.Repeat("word", i%4*3)+strconv.Itoa(i))
	}
	return out
}

// now returns the texts of all objects.
func (x *trial) now() map[string]bool {
	all := map[string]bool{}
	for text := range x.loose {
		all[text] = true
	}
	for _, texts := range x.packs {
		for text := range texts {
			all[text] = true
		}
	}
	return all
}

// some returns some of all texts.
func (x *trial) some() []string {
	var texts []string
	for _, text := range words() {
		if x.r.IntN(3) == 0 {
			texts = append(texts, text)
		}
	}
	return texts
}

// scan takes over what the disk says of the objects.
func (x *trial) scan() {
	x.loose, x.packs = map[string]bool{}, map[string]map[string]bool{}
	files := map[string]string{}
	for _, text := range words() {
		files[file(text)] = text
	}
	for _, name := range x.d.Names() {
		bytes, err := x.d.Read(name)
		if err != api.OK || name == "o/tmp" || name == "p/tmp" {
			continue
		}
		if text, ok := files[name]; ok {
			if string(bytes) != text {
				x.Fatalf("the file of %q has %q", text, bytes)
			}
			x.loose[text] = true
			continue
		}
		p, err := pack.Read(bytes, nil)
		if err != api.OK {
			x.Fatalf("%q is no pack", name)
		}
		x.packs[name] = map[string]bool{}
		for _, id := range p.IDs() {
			object, _ := p.Get(id)
			x.packs[name][string(object)] = true
		}
	}
}

// flushed takes over that all objects are durable.
func (x *trial) flushed() {
	x.sure = x.now()
}

func (x *trial) act() {
	switch x.r.IntN(12) {
	case 0, 1, 2:
		x.put(words()[x.r.IntN(14)])
	case 3, 4, 5:
		x.install()
	case 6:
		x.sweep(x.some())
	case 7:
		var all []string
		for _, text := range words() {
			if x.now()[text] {
				all = append(all, text)
			}
		}
		if x.r.IntN(2) == 0 {
			x.sweep(all)
		} else {
			x.swept(all, x.b.Repack())
		}
	case 8:
		if x.b.Flush() == api.OK {
			x.flushed()
		}
	case 9:
		x.d.Fail(x.r.IntN(25))
	case 10:
		x.crash()
	case 11:
		if b, err := Open(x.d); err == api.OK {
			x.b = b
			x.startNumbers()
		} else if !x.d.Down() || err != api.ErrDown || len(x.packs) == 0 {
			x.Fatalf("Open answers %d", err)
		}
	}
}

// startNumbers takes over that the bag was opened.
func (x *trial) startNumbers() {
	x.last = 0
	for name := range x.packs {
		n, _ := strconv.Atoi(name[2:])
		x.last = max(x.last, n)
	}
}

func (x *trial) put(text string) {
	known := x.now()[text]
	id, err := x.b.Put([]byte(text))
	switch {
	case err == api.OK && id == idOf(text):
		if !known {
			x.loose[text] = true
		}
	case id != (api.ID{}) || !x.d.Down() && (err != api.ErrRoom || known):
		x.Fatalf("Put answers %v, %d", id, err)
	}
}

// added takes over that a new pack was written.
func (x *trial) added(texts []string) {
	x.last++
	set := map[string]bool{}
	for _, text := range texts {
		set[text] = true
	}
	x.packs["p/"+strconv.Itoa(x.last)] = set
}

func (x *trial) install() {
	texts, all := x.some(), x.now()
	var bases, fresh []string
	for text := range all {
		bases = append(bases, text)
	}
	slices.Sort(bases)
	for _, text := range texts {
		if !all[text] {
			fresh = append(fresh, text)
		}
	}
	n, err := x.b.Install(packOn(bases, texts...))
	switch {
	case err == api.OK && n == len(fresh):
		if n > 0 {
			x.added(fresh)
			x.flushed()
		}
	case n != 0 || !x.d.Down() && (err != api.ErrRoom || len(fresh) == 0):
		x.Fatalf("Install answers %d, %d", n, err)
	case err == api.ErrDown && x.b.Packs() > len(x.packs): // all but the Flush was done
		x.added(fresh)
	}
}

func (x *trial) sweep(keep []string) {
	all := x.now()
	for _, text := range keep {
		if !all[text] {
			if err := x.b.Sweep(idsOf(keep...)); err != api.ErrNone {
				x.Fatalf("Sweep answers %d", err)
			}
			return
		}
	}
	x.swept(keep, x.b.Sweep(idsOf(keep...)))
}

// swept takes over what a Sweep has done.
func (x *trial) swept(keep []string, err api.Errno) {
	settled := len(x.loose) == 0 && len(x.packs) <= 1 && len(x.now()) == len(keep)
	switch {
	case err == api.OK && settled:
	case err == api.OK:
		x.loose, x.packs = map[string]bool{}, map[string]map[string]bool{}
		if len(keep) > 0 {
			x.added(keep)
		}
		x.flushed()
	case settled || !x.d.Down() && err != api.ErrRoom:
		x.Fatalf("Sweep answers %d", err)
	case err == api.ErrDown:
		gone := map[string]bool{}
		for text := range x.sure {
			gone[text] = true
		}
		x.sure = map[string]bool{}
		for _, text := range keep {
			if gone[text] {
				x.sure[text] = true
			}
		}
		x.crash()
	}
}

// crash lets the power fail, opens the bag, and fails the test unless what is sure exists.
func (x *trial) crash() {
	x.d.Crash(x.r.IntN(12), []int{x.r.IntN(200), x.r.IntN(200), x.r.IntN(200)})
	x.scan()
	x.b = open(x.T, x.d)
	x.startNumbers()
	for text := range x.sure {
		if !x.now()[text] {
			x.Fatalf("%q is lost", text)
		}
	}
	x.flushed()
}

// look fails the test unless the bag has what it should have.
func (x *trial) look() {
	all := x.now()
	var texts []string
	for _, text := range words() {
		if all[text] {
			texts = append(texts, text)
		}
		got, err := x.b.Get(idOf(text))
		switch {
		case x.b.Has(idOf(text)) != all[text]:
			x.Fatalf("Has of %q", text)
		case x.d.Down() && err != api.ErrDown:
			x.Fatalf("Get without power answers %d", err)
		case !x.d.Down() && all[text] && (err != api.OK || string(got) != text):
			x.Fatalf("Get of %q answers %q, %d", text, got, err)
		case !x.d.Down() && !all[text] && err != api.ErrNone:
			x.Fatalf("Get of %q, which is not there, answers %d", text, err)
		}
	}
	if !slices.Equal(x.b.IDs(), idsOf(texts...)) || x.b.Loose() != len(x.loose) || x.b.Packs() != len(x.packs) {
		x.Fatalf("there are %d objects, %d loose ones and %d packs", len(x.b.IDs()), x.b.Loose(), x.b.Packs())
	}
	for name := range x.packs {
		if !slices.Contains(x.d.Names(), name) {
			x.Fatalf("there is no file %q", name)
		}
	}
}

// P9.1, P9.2 and P9.3: random calls and power failures.
func TestRandomCalls(t *testing.T) {
	for seed := range uint64(300) {
		r := rand.New(rand.NewPCG(seed, 9))
		d := disk.New(300 + r.IntN(1000))
		x := &trial{T: t, r: r, d: d, b: open(t, d)}
		x.scan()
		for range 100 {
			x.act()
			x.look()
		}
	}
}
