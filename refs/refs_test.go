package refs

import (
	"bytes"
	"encoding/binary"
	"hash/crc32"
	"maps"
	"math/rand/v2"
	"slices"
	"strconv"
	"strings"
	"testing"

	"pollard/api"
	"pollard/disk"
)

const (
	file = "refs"
	temp = "refs.tmp"
	main = "heads/main"
)

// check fails the test unless a call answered as it should.
func check(t *testing.T, call string, got, want api.Errno) {
	t.Helper()
	if got != want {
		t.Fatalf("%s answers %d, not %d", call, got, want)
	}
}

func open(t *testing.T, d *disk.Disk) *Refs {
	t.Helper()
	r, err := Open(d)
	check(t, "Open", err, api.OK)
	return r
}

// openFails fails the test unless Open answers an error, and no refs beside it.
func openFails(t *testing.T, d *disk.Disk, want api.Errno) {
	t.Helper()
	r, err := Open(d)
	check(t, "Open", err, want)
	if r != nil {
		t.Fatal("Open answers refs beside an error")
	}
}

// do fails the test unless a transaction is performed.
func do(t *testing.T, r *Refs, tx Tx) {
	t.Helper()
	check(t, "Do", r.Do(tx), api.OK)
}

// num returns an ID for a number, the zero ID for 0.
func num(n int) api.ID {
	return api.ID{31: byte(n)}
}

// set is a transaction of one update.
func set(name string, old, new int) Tx {
	return Tx{Updates: []Update{{name, num(old), num(new)}}}
}

// many is a transaction of n new branches.
func many(n int) Tx {
	var tx Tx
	for i := range n {
		tx.Updates = append(tx.Updates, Update{Name: "heads/b" + strconv.Itoa(i), New: num(1)})
	}
	return tx
}

// text returns a text's encoding.
func text(s string) []byte {
	return append(binary.AppendUvarint(nil, uint64(len(s))), s...)
}

// sealed returns a payload with what stands before it in a record.
func sealed(payload []byte) []byte {
	b := binary.AppendUvarint(nil, uint64(len(payload)))
	b = binary.LittleEndian.AppendUint32(b, crc32.ChecksumIEEE(payload))
	return append(b, payload...)
}

// payload returns a transaction's payload as the chapter says.
func payload(tx Tx) []byte {
	b := binary.AppendUvarint(nil, uint64(len(tx.Updates)))
	for _, u := range tx.Updates {
		b = slices.Concat(b, text(u.Name), u.Old[:], u.New[:])
	}
	return slices.Concat(b, text(tx.Head), tx.At[:])
}

// records returns the bytes of a file with transactions.
func records(txs ...Tx) []byte {
	var b []byte
	for _, tx := range txs {
		b = append(b, sealed(payload(tx))...)
	}
	return b
}

// fill makes a file of a disk, durably.
func fill(t *testing.T, d *disk.Disk, name string, b []byte) {
	t.Helper()
	d.Remove(name)
	check(t, "Create", d.Create(name), api.OK)
	check(t, "Append", d.Append(name, b), api.OK)
	check(t, "Sync", d.Sync(name), api.OK)
	check(t, "Flush", d.Flush(), api.OK)
}

// diskWith returns a disk whose file has these bytes.
func diskWith(t *testing.T, b []byte) *disk.Disk {
	t.Helper()
	d := disk.New(1 << 20)
	fill(t, d, file, b)
	return d
}

// fileIs fails the test unless the file has these bytes.
func fileIs(t *testing.T, d *disk.Disk, want []byte) {
	t.Helper()
	b, err := d.Read(file)
	check(t, "Read", err, api.OK)
	if !bytes.Equal(b, want) {
		t.Fatalf("the file has %v, not %v", b, want)
	}
}

// steps fails the test unless a call makes n steps of the disk.
func steps(t *testing.T, d *disk.Disk, n int, call func()) {
	t.Helper()
	d.Fail(n + 1)
	call()
	if d.Down() {
		t.Fatalf("there are more than %d steps", n)
	}
	if d.Flush(); !d.Down() {
		t.Fatalf("there are less than %d steps", n)
	}
	d.Crash(1<<20, []int{1 << 20, 1 << 20})
}

// model is what refs should answer.
type model struct {
	ids  map[string]api.ID
	head string
	at   api.ID
	log  []Update
}

func newModel() model {
	return model{ids: map[string]api.ID{}, head: main}
}

// check returns what Do answers, but for the disk's errors.
func (m model) check(tx Tx) api.Errno {
	if len(tx.Updates) > 64 {
		return api.ErrMany
	}
	seen := map[string]bool{}
	for _, u := range tx.Updates {
		if !Valid(u.Name) {
			return api.ErrName
		}
		if seen[u.Name] {
			return api.ErrTwice
		}
		seen[u.Name] = true
		if m.ids[u.Name] != u.Old {
			return api.ErrOld
		}
	}
	if tx.Head != "" && (!strings.HasPrefix(tx.Head, "heads/") || !Valid(tx.Head)) {
		return api.ErrName
	}
	return api.OK
}

// after returns the model behind transactions.
func (m model) after(txs ...Tx) model {
	m.ids, m.log = maps.Clone(m.ids), slices.Clone(m.log)
	for _, tx := range txs {
		for _, u := range tx.Updates {
			m.ids[u.Name] = u.New
			if u.New == num(0) {
				delete(m.ids, u.Name)
			}
			m.log = append(m.log, u)
		}
		if tx.Head != "" {
			m.head, m.at = tx.Head, num(0)
		} else if tx.At != num(0) {
			m.head, m.at = "", tx.At
		}
	}
	return m
}

// is reports whether refs answer what the model does.
func (m model) is(r *Refs) bool {
	if !slices.Equal(r.Names(), slices.Sorted(maps.Keys(m.ids))) || !slices.Equal(r.Log(), m.log) {
		return false
	}
	for name, id := range m.ids {
		if r.Get(name) != id {
			return false
		}
	}
	at := m.at
	if m.head != "" {
		at = m.ids[m.head]
	}
	head, id := r.Head()
	return head == m.head && id == at
}

// expect fails the test unless refs are as after some transactions.
func expect(t *testing.T, r *Refs, txs ...Tx) {
	t.Helper()
	if !newModel().after(txs...).is(r) {
		head, at := r.Head()
		t.Fatalf("there are %q, HEAD is %q, %v, and the log is %v", r.Names(), head, at, r.Log())
	}
}

// P10.1: which strings are names of refs.
func TestValid(t *testing.T) {
	long := strings.Repeat("n", api.MaxName)
	for _, name := range []string{
		main, "tags/main", "remotes/main/main", "heads/heads", "tags/..a", "heads/...", "heads/ ", "heads/\xff\x01",
		"remotes/a/..b", "heads/" + long, "tags/" + long, "remotes/" + long + "/" + long,
	} {
		if !Valid(name) {
			t.Errorf("%q is not valid", name)
		}
	}
	for _, name := range []string{
		"", "/", "a", "main", "heads", "tags", "remotes", "heads/", "tags/", "remotes/", "remotes//", "remotes/a",
		"remotes/a/", "remotes//a", "remotes/a/b/c", "remotes/a//b", "remotes/./a", "remotes/a/.", "remotes/../a", "remotes/a/..",
		"heads/.", "heads/..", "tags/.", "tags/..", "heads/a/b", "tags/a/b", "heads//a", "heads/a/", "/heads/a", "headsa",
		"Heads/a", "HEAD", "heads\x00a", "heads/a\x00", "tags/a\nb", "remotes/a/b\n", "remotes/\x00/b",
		"heads/" + long + "n", "tags/" + long + "n", "remotes/" + long + "n/a", "remotes/a/" + long + "n", "remotes/a/heads/b",
		" heads/a", "head/a", "tag/a", "remote/a/b", strings.Repeat("heads/", 1000),
	} {
		if Valid(name) {
			t.Errorf("%q is valid", name)
		}
	}
}

// P10.1: new refs.
func TestOpenNew(t *testing.T) {
	d := disk.New(1000)
	var r *Refs
	steps(t, d, 2, func() { r = open(t, d) })
	expect(t, r)
	fileIs(t, d, nil)
	if head, id := r.Head(); head != main || id != num(0) {
		t.Errorf("HEAD is %q, %v", head, id)
	}
	if r.Get(main) != num(0) || r.Get("") != num(0) || r.Get("junk") != num(0) {
		t.Error("a ref that does not exist has an ID")
	}
	d.Crash(0, nil)
	fileIs(t, d, nil)
	steps(t, d, 0, func() { expect(t, open(t, d)) })
}

// P10.1: updates of refs, the answers, and the bytes of the file.
func TestDo(t *testing.T) {
	d := disk.New(10_000)
	r := open(t, d)
	txs := []Tx{
		set(main, 0, 1),
		{Updates: []Update{{"tags/b", num(0), num(2)}, {"heads/z", num(0), num(3)}, {"remotes/x/y", num(0), num(4)}, {"heads/Z", num(0), num(5)}}},
		set(main, 1, 6),
		{Updates: []Update{{"heads/z", num(3), num(0)}, {"tags/b", num(2), num(2)}}},
		set("heads/never", 0, 0),
		set("heads/z", 0, 7),
		many(64),
	}
	for i, tx := range txs {
		steps(t, d, 2, func() { do(t, r, tx) })
		expect(t, r, txs[:i+1]...)
		fileIs(t, d, records(txs[:i+1]...))
		steps(t, d, 0, func() { expect(t, open(t, d), txs[:i+1]...) })
	}
	names := r.Names()
	if len(names) != 64+5 || names[0] != "heads/Z" || names[66] != "heads/z" || names[67] != "remotes/x/y" || names[68] != "tags/b" {
		t.Errorf("the names are %q", names)
	}
}

// P10.1: a record, byte by byte.
func TestFormat(t *testing.T) {
	d := disk.New(1000)
	r := open(t, d)
	tx := Tx{Updates: []Update{{Name: "tags/a", New: num(9)}}, Head: "heads/b", At: num(8)}
	do(t, r, tx)
	want := slices.Concat([]byte{1, 6}, []byte("tags/a"), make([]byte, 63), []byte{9, 7}, []byte("heads/b"), make([]byte, 31), []byte{8})
	sum := crc32.ChecksumIEEE(want)
	fileIs(t, d, append([]byte{112, byte(sum), byte(sum >> 8), byte(sum >> 16), byte(sum >> 24)}, want...))
}

// P10.1: HEAD.
func TestHead(t *testing.T) {
	d := disk.New(10_000)
	r := open(t, d)
	txs := []Tx{
		set(main, 0, 1),
		{Head: "heads/new"},
		{Head: "heads/new"},
		set("heads/new", 0, 2),
		{At: num(3)},
		{At: num(3)},
		set("heads/new", 2, 4),
		{At: num(5)},
		{Head: main, At: num(6)},
		{Updates: []Update{{main, num(1), num(0)}}, Head: "heads/" + strings.Repeat("l", api.MaxName)},
		{Updates: []Update{{main, num(0), num(7)}}, At: num(8)},
		{Head: main},
	}
	heads := []string{main, "heads/new", "heads/new", "heads/new", "", "", "", "", main, txs[9].Head, "", main}
	ids := []int{1, 0, 0, 2, 3, 3, 3, 5, 1, 0, 8, 7}
	for i, tx := range txs {
		steps(t, d, 2, func() { do(t, r, tx) })
		for _, r := range []*Refs{r, open(t, d)} {
			if head, id := r.Head(); head != heads[i] || id != num(ids[i]) {
				t.Fatalf("behind transaction %d HEAD is %q, %v", i, head, id)
			}
			expect(t, r, txs[:i+1]...)
		}
		fileIs(t, d, records(txs[:i+1]...))
	}
}

// P10.1: a transaction without anything writes nothing.
func TestDoNothing(t *testing.T) {
	d := disk.New(0)
	r := open(t, d)
	for _, tx := range []Tx{{}, {Updates: []Update{}}} {
		steps(t, d, 0, func() { do(t, r, tx) })
	}
	d.Fail(1)
	d.Flush()
	do(t, r, Tx{})
	d.Crash(0, nil)
	fileIs(t, d, nil)
	expect(t, r)
}

// P10.1: the errors of transactions in their order; none of them changes anything.
func TestDoErrors(t *testing.T) {
	d := disk.New(10_000)
	r := open(t, d)
	first := Tx{Updates: []Update{{main, num(0), num(1)}, {"tags/a", num(0), num(2)}}}
	do(t, r, first)
	bad, ok, old := Update{Name: "heads/"}, Update{main, num(1), num(3)}, Update{"tags/a", num(1), num(3)}
	for i, c := range []struct {
		tx  Tx
		err api.Errno
	}{
		{many(65), api.ErrMany},
		{Tx{Updates: slices.Repeat([]Update{bad}, 65), Head: "junk"}, api.ErrMany},
		{Tx{Updates: []Update{bad}}, api.ErrName},
		{Tx{Updates: []Update{bad}, Head: main}, api.ErrName},
		{Tx{Updates: []Update{{}}}, api.ErrName},
		{Tx{Updates: []Update{{"HEAD", num(0), num(1)}}}, api.ErrName},
		{Tx{Updates: []Update{ok, bad}}, api.ErrName},
		{Tx{Updates: []Update{old, bad}}, api.ErrOld},
		{Tx{Updates: []Update{bad, old}}, api.ErrName},
		{Tx{Updates: []Update{ok, ok}}, api.ErrTwice},
		{Tx{Updates: []Update{ok, {main, num(3), num(4)}}}, api.ErrTwice},
		{Tx{Updates: []Update{ok, {"tags/a", num(2), num(0)}, {"tags/a", num(0), num(0)}}}, api.ErrTwice},
		{Tx{Updates: []Update{{"junk", num(0), num(1)}, {"junk", num(0), num(1)}}}, api.ErrName},
		{Tx{Updates: []Update{ok, ok, bad}, Head: "junk"}, api.ErrTwice},
		{Tx{Updates: []Update{ok, old, ok}}, api.ErrOld},
		{Tx{Updates: []Update{ok, old}, Head: "junk"}, api.ErrOld},
		{set(main, 0, 1), api.ErrOld},
		{set(main, 2, 1), api.ErrOld},
		{set("heads/none", 1, 2), api.ErrOld},
		{set("heads/none", 1, 0), api.ErrOld},
		{set("tags/b", 1, 1), api.ErrOld},
		{Tx{Updates: []Update{ok}, Head: "junk"}, api.ErrName},
		{Tx{Head: "junk", At: num(1)}, api.ErrName},
		{Tx{Head: "heads/"}, api.ErrName},
		{Tx{Head: "heads/."}, api.ErrName},
		{Tx{Head: "tags/a"}, api.ErrName},
		{Tx{Head: "remotes/a/b"}, api.ErrName},
		{Tx{Head: "main"}, api.ErrName},
		{Tx{Head: "heads/" + strings.Repeat("l", api.MaxName+1)}, api.ErrName},
	} {
		steps(t, d, 0, func() {
			if err := r.Do(c.tx); err != c.err {
				t.Errorf("transaction %d answers %d, not %d", i, err, c.err)
			}
		})
		expect(t, r, first)
		fileIs(t, d, records(first))
	}
	next := Tx{Updates: []Update{ok}}
	do(t, r, next)
	expect(t, r, first, next)
}

// P10.1: the names of 64 updates may be as long as they can.
func TestLongestRecord(t *testing.T) {
	var tx Tx
	for i := range 64 {
		site := strings.Repeat("s", api.MaxName-2) + strconv.Itoa(10+i)
		tx.Updates = append(tx.Updates, Update{"remotes/" + site + "/" + strings.Repeat("\xff", api.MaxName), num(0), num(i)})
	}
	tx.Head, tx.At = "heads/"+strings.Repeat("h", api.MaxName), num(1)
	d := disk.New(20_000)
	do(t, open(t, d), tx)
	expect(t, open(t, d), tx)
}

// P10.1: without power each call that would write answers ErrDown, and then the refs are stuck.
func TestStuckWithoutPower(t *testing.T) {
	first, next := set(main, 0, 1), set(main, 1, 2)
	for fail := 1; fail <= 3; fail++ {
		d := disk.New(1000)
		r := open(t, d)
		do(t, r, first)
		if fail < 3 {
			d.Fail(fail)
		} else {
			d.Fail(1)
			d.Flush()
		}
		check(t, "Do", r.Do(next), api.ErrDown)
		expect(t, r, first)
		for range 2 {
			check(t, "Do", r.Do(next), api.ErrDown)
			check(t, "Do", r.Do(Tx{Head: main}), api.ErrDown)
			check(t, "Do", r.Do(Tx{At: num(1)}), api.ErrDown)
			check(t, "Do", r.Do(set(main, 2, 1)), api.ErrOld)
			check(t, "Do", r.Do(set("a", 2, 1)), api.ErrName)
			check(t, "Do", r.Do(Tx{Head: "a"}), api.ErrName)
			check(t, "Do", r.Do(many(65)), api.ErrMany)
			check(t, "Do", r.Do(Tx{}), api.OK)
			expect(t, r, first)
			d.Crash(0, nil)
		}
		r = open(t, d)
		expect(t, r, first)
		do(t, r, next)
		expect(t, r, first, next)
	}
}

// P10.1: a record for which there is no space is not written, and then the refs are stuck, also when there is.
func TestStuckWithoutRoom(t *testing.T) {
	first, next, small := set(main, 0, 1), set(main, 1, 2), Tx{At: num(3)}
	d := disk.New(len(records(first, next)))
	r := open(t, d)
	do(t, r, first)
	fill(t, d, "other", []byte{1})
	check(t, "Do", r.Do(next), api.ErrRoom)
	check(t, "Remove", d.Remove("other"), api.OK)
	for _, tx := range []Tx{next, small} {
		steps(t, d, 0, func() { check(t, "Do", r.Do(tx), api.ErrDown) })
	}
	check(t, "Do", r.Do(set(main, 0, 1)), api.ErrOld)
	do(t, r, Tx{})
	expect(t, r, first)
	fileIs(t, d, records(first))
	r = open(t, d)
	do(t, r, next)
	expect(t, r, first, next)
	check(t, "Do", r.Do(small), api.ErrRoom)
	expect(t, open(t, d), first, next)
}

// P10.1: the first error of a file that isn't there any more is Append's.
func TestDoWithoutFile(t *testing.T) {
	d := disk.New(1000)
	r := open(t, d)
	check(t, "Remove", d.Remove(file), api.OK)
	check(t, "Do", r.Do(set(main, 0, 1)), api.ErrNone)
	check(t, "Do", r.Do(set(main, 0, 1)), api.ErrDown)
	expect(t, r)
}

// P10.1: the errors of Open.
func TestOpenErrors(t *testing.T) {
	tx := set(main, 0, 1)
	whole := records(tx)
	for fail := 1; fail <= 2; fail++ {
		d := disk.New(10)
		d.Fail(fail)
		openFails(t, d, api.ErrDown)
		openFails(t, d, api.ErrDown)
		d.Crash(0, nil)
		if len(d.Names()) != 0 {
			t.Error("there is a file")
		}
		expect(t, open(t, d))
	}
	d := disk.New(10)
	for i := range api.MaxFiles {
		d.Create(strconv.Itoa(i))
	}
	openFails(t, d, api.ErrMany)

	d = diskWith(t, append(whole, 1))
	for i := range api.MaxFiles - 1 {
		d.Create(strconv.Itoa(i))
	}
	openFails(t, d, api.ErrMany)
	check(t, "Rename", d.Rename("0", temp), api.OK)
	expect(t, open(t, d), tx)

	d = disk.New(2 * len(whole))
	fill(t, d, file, append(whole, 1))
	openFails(t, d, api.ErrRoom)
	fileIs(t, d, append(whole, 1))
	if !slices.Equal(d.Names(), []string{file, temp}) {
		t.Errorf("there are %q", d.Names())
	}
	d = disk.New(2*len(whole) + 1)
	fill(t, d, file, append(whole, 1))
	expect(t, open(t, d), tx)

	d = diskWith(t, whole)
	d.Fail(1)
	d.Flush()
	openFails(t, d, api.ErrDown)
}

// P10.1: the steps by which bytes that are not valid are cut off.
func TestRewrite(t *testing.T) {
	tx := set(main, 0, 1)
	for _, old := range []bool{false, true} {
		d := diskWith(t, append(records(tx), 5))
		n := 5
		if old {
			fill(t, d, temp, []byte("left behind"))
			n = 6
		}
		steps(t, d, n, func() { expect(t, open(t, d), tx) })
		fileIs(t, d, records(tx))
		if !slices.Equal(d.Names(), []string{file}) {
			t.Errorf("there are %q", d.Names())
		}
		steps(t, d, 0, func() { expect(t, open(t, d), tx) })
		for fail := 1; fail <= n; fail++ {
			for turns := range 4 {
				d := diskWith(t, append(records(tx), 5))
				if old {
					fill(t, d, temp, []byte("left behind"))
				}
				d.Fail(fail)
				openFails(t, d, api.ErrDown)
				d.Crash(turns, []int{turns})
				expect(t, open(t, d), tx)
				fileIs(t, d, records(tx))
			}
		}
	}
	d := diskWith(t, append(records(tx), 5))
	open(t, d)
	d.Crash(0, nil)
	fileIs(t, d, records(tx))
	fill(t, d, temp, []byte("left behind"))
	steps(t, d, 0, func() { open(t, d) })
	if !slices.Equal(d.Names(), []string{file, temp}) {
		t.Errorf("there are %q", d.Names())
	}
}

// story is some transactions one behind the other.
func story() []Tx {
	return []Tx{
		set(main, 0, 1),
		{Updates: []Update{{main, num(1), num(2)}, {"tags/t", num(0), num(3)}}, Head: "heads/x"},
		{At: num(4)},
		set("tags/t", 3, 0),
	}
}

// P10.2 and P10.3: of a file that ends anywhere the complete records count.
func TestPrefixes(t *testing.T) {
	txs := story()
	b := records(txs...)
	for size := range len(b) + 1 {
		n := 0
		for n < len(txs) && len(records(txs[:n+1]...)) <= size {
			n++
		}
		d := diskWith(t, b[:size])
		expect(t, open(t, d), txs[:n]...)
		fileIs(t, d, records(txs[:n]...))
		expect(t, open(t, d), txs[:n]...)
	}
}

// P10.3: a record with any other byte, and all behind it, are ignored.
func TestChangedBytes(t *testing.T) {
	txs := story()
	b := records(txs...)
	for i := range b {
		n := 0
		for len(records(txs[:n+1]...)) <= i {
			n++
		}
		for _, change := range []byte{1, 2, 4, 8, 16, 32, 64, 128, 255} {
			x := slices.Clone(b)
			x[i] ^= change
			d := diskWith(t, x)
			expect(t, open(t, d), txs[:n]...)
			fileIs(t, d, records(txs[:n]...))
		}
	}
}

// P10.3: a record with its checksum whose payload is none, or can't be performed, is ignored with all behind it.
func TestWrongRecords(t *testing.T) {
	first, last := set(main, 0, 1), set("tags/last", 0, 1)
	good := payload(set("heads/a", 0, 5))
	tooMany := payload(many(65))
	longNumber := func(b []byte) []byte { return append([]byte{b[0] | 128, 0}, b[1:]...) }
	for i, wrong := range [][]byte{
		sealed(nil),
		sealed([]byte{0}),
		sealed(append(slices.Clone(good), 0)),
		sealed(good[:len(good)-1]),
		sealed(append([]byte{2}, good[1:]...)),
		sealed(append([]byte{0}, good[1:]...)),
		sealed(longNumber(good)),
		sealed(tooMany),
		sealed(binary.AppendUvarint(nil, 1<<62)),
		longNumber(sealed(payload(Tx{Head: main}))),
		sealed(payload(set("heads/", 0, 5))),
		sealed(payload(set("heads/"+strings.Repeat("l", 61), 0, 5))),
		sealed(payload(set("heads/"+strings.Repeat("l", 1000), 0, 5))),
		sealed(payload(set("", 0, 5))),
		sealed(payload(set(main, 0, 5))),
		sealed(payload(set("heads/a", 1, 5))),
		sealed(payload(Tx{Updates: []Update{{main, num(1), num(5)}, {main, num(5), num(6)}}})),
		sealed(payload(Tx{Updates: []Update{{main, num(1), num(5)}}, Head: "tags/last"})),
		sealed(payload(Tx{Head: "heads/" + strings.Repeat("l", 61)})),
		sealed(payload(Tx{Head: "main", At: num(1)})),
		{0, 0, 0, 0, 0},
		make([]byte, 100),
		{255, 255, 255, 255, 255, 255, 255, 255, 63, 0, 0, 0, 0},
		append(binary.AppendUvarint(nil, 1<<62), 0, 0, 0, 0),
		bytes.Repeat([]byte{255}, 100),
	} {
		d := diskWith(t, slices.Concat(records(first), wrong, records(last)))
		r := open(t, d)
		if !newModel().after(first).is(r) {
			t.Fatalf("behind the wrong record %d there are %q", i, r.Names())
		}
		fileIs(t, d, records(first))
		do(t, r, last)
		expect(t, open(t, d), first, last)
	}
}

// P10.3: a record in which nothing changes, or which names two HEADs, is one like any other.
func TestUnusualRecords(t *testing.T) {
	txs := []Tx{{}, {Head: main, At: num(1)}, set(main, 0, 0), {}, {At: num(2)}, set(main, 0, 1), {}}
	d := diskWith(t, records(txs...))
	steps(t, d, 0, func() { expect(t, open(t, d), txs...) })
	fileIs(t, d, records(txs...))
}

// P10.3: many records.
func TestManyRecords(t *testing.T) {
	txs := slices.Repeat([]Tx{{At: num(1)}, {Head: "heads/b"}}, 20_000)
	b := records(txs...)
	d := disk.New(2 * len(b))
	fill(t, d, file, b)
	expect(t, open(t, d), txs...)
	fileIs(t, d, b)
}

// P10.2: a power failure in each step of Do.
func TestCrashInDo(t *testing.T) {
	first, next := set(main, 0, 1), Tx{Updates: []Update{{main, num(1), num(2)}, {"tags/a", num(0), num(3)}}, Head: "heads/b"}
	size := len(records(next))
	for fail := 1; fail <= 3; fail++ {
		for keep := range size + 2 {
			d := disk.New(1000)
			r := open(t, d)
			do(t, r, first)
			d.Fail(fail)
			err := r.Do(next)
			d.Crash(0, []int{keep})
			if (err == api.OK) != (fail == 3) {
				t.Fatalf("Do answers %d", err)
			}
			txs := []Tx{first}
			if fail == 3 || fail == 2 && keep >= size {
				txs = append(txs, next)
			}
			expect(t, open(t, d), txs...)
			fileIs(t, d, records(txs...))
		}
	}
}

// P10.4: results are newly allocated, and arguments are not modified and not retained.
func TestMemory(t *testing.T) {
	d := disk.New(10_000)
	r := open(t, d)
	tx := Tx{Updates: []Update{{"tags/b", num(0), num(1)}, {main, num(0), num(2)}, {"tags/c", num(0), num(3)}}}
	kept := slices.Clone(tx.Updates)
	short := Tx{Updates: tx.Updates[:2]}
	do(t, r, short)
	if !slices.Equal(tx.Updates, kept) {
		t.Error("Do has modified its argument")
	}
	clear(tx.Updates)
	want := Tx{Updates: kept[:2]}
	for range 2 {
		names, log := r.Names(), r.Log()
		clear(names[:cap(names)])
		clear(log[:cap(log)])
		expect(t, r, want)
	}
	log := append(r.Log(), Update{})
	do(t, r, set("tags/d", 0, 1))
	if log[2] != (Update{}) {
		t.Error("Do writes into the memory of a result")
	}
	expect(t, r, want, set("tags/d", 0, 1))
}

// trial is refs with what is known of them.
type trial struct {
	*testing.T
	r       *rand.Rand
	d       *disk.Disk
	refs    *Refs
	now     model
	pending []Tx // the one in progress when the power failed
	stuck   bool
	full    bool // there is no space for the file that is written again
}

// randomName returns the name of a ref, or now and then another one.
func (x *trial) randomName() string {
	names := []string{main, "heads/a", "heads/b", "tags/a", "tags/b", "remotes/a/a", "remotes/a/b", "remotes/b/a"}
	if x.r.IntN(40) == 0 {
		return []string{"", "heads/", "tags/a/b", "remotes/a"}[x.r.IntN(4)]
	}
	return names[x.r.IntN(len(names))]
}

func (x *trial) randomTx() Tx {
	var tx Tx
	for range x.r.IntN(4) {
		u := Update{Name: x.randomName(), New: num(x.r.IntN(5))}
		u.Old = x.now.ids[u.Name]
		if x.r.IntN(20) == 0 {
			u.Old = num(x.r.IntN(5))
		}
		tx.Updates = append(tx.Updates, u)
	}
	switch x.r.IntN(6) {
	case 0:
		tx.Head = x.randomName()
	case 1:
		tx.At = num(x.r.IntN(4))
	case 2:
		tx.Head, tx.At = main, num(x.r.IntN(4))
	}
	return tx
}

// act makes a random call.
func (x *trial) act() {
	switch x.r.IntN(14) {
	case 0:
		x.d.Fail(x.r.IntN(12))
	case 1:
		x.d.Crash(x.r.IntN(8), []int{x.r.IntN(400), x.r.IntN(400), x.r.IntN(400)})
		x.reopen()
	case 2:
		if !x.d.Down() {
			x.reopen()
		}
	case 3:
		x.d.Remove("other")
		x.d.Create("other")
		x.d.Append("other", make([]byte, x.r.IntN(x.d.Room()+1)))
	case 4:
		if x.r.IntN(2) == 0 && !x.d.Down() { // as if written by a call in progress
			x.d.Append(file, []byte{byte(x.r.Uint32()), 1})
			x.stuck = true
			x.reopen()
		}
	default:
		x.transact()
	}
}

// transact makes a random transaction, and fails the test unless it answers what it should.
func (x *trial) transact() {
	tx := x.randomTx()
	err, want := x.refs.Do(tx), x.now.check(tx)
	empty := len(tx.Updates) == 0 && tx.Head == "" && tx.At == num(0)
	switch {
	case want != api.OK || empty:
		check(x.T, "Do", err, want)
	case x.stuck:
		check(x.T, "Do of stuck refs", err, api.ErrDown)
	case err == api.OK:
		x.now = x.now.after(tx)
	case err == api.ErrDown && x.d.Down():
		x.stuck, x.pending = true, []Tx{tx}
	case err == api.ErrRoom && x.d.Room() < len(records(tx)):
		x.stuck = true
	default:
		x.Fatalf("Do answers %d", err)
	}
}

// reopen opens the refs again, and fails the test unless they are as they were.
func (x *trial) reopen() {
	for {
		r, err := Open(x.d)
		switch {
		case err == api.OK:
			x.reopened(r)
			return
		case err == api.ErrDown && x.d.Down():
			x.d.Crash(x.r.IntN(8), []int{x.r.IntN(400), x.r.IntN(400), x.r.IntN(400)})
		case err == api.ErrRoom && slices.Contains(x.d.Names(), "other"):
			x.d.Remove("other")
		case err == api.ErrRoom:
			x.full = true
			return
		default:
			x.Fatalf("Open answers %d", err)
		}
	}
}

// reopened takes over the refs that were opened.
func (x *trial) reopened(r *Refs) {
	x.refs, x.stuck = r, false
	if next := x.now.after(x.pending...); !x.now.is(r) && next.is(r) {
		x.now = next
	}
	x.pending = nil
}

// P10.1, P10.2 and P10.3: random calls, power failures, and lack of space.
func TestRandomCalls(t *testing.T) {
	for seed := range uint64(300) {
		r := rand.New(rand.NewPCG(seed, 10))
		x := &trial{T: t, r: r, d: disk.New(1000 + r.IntN(20_000)), now: newModel()}
		x.refs = open(t, x.d)
		for i := 0; i < 150 && !x.full; i++ {
			x.act()
			if !x.now.is(x.refs) {
				t.Fatalf("seed %d: there are %q instead of %v", seed, x.refs.Names(), x.now)
			}
		}
	}
}

// P10.3: whatever bytes the file has, Open ends, and opened again there is the same.
func TestAnyBytes(t *testing.T) {
	r := rand.New(rand.NewPCG(10, 3))
	for range 3000 {
		var parts [][]byte
		for range r.IntN(5) {
			b := records(story()[r.IntN(4)])
			switch r.IntN(4) {
			case 0:
				b[r.IntN(len(b))] = byte(r.Uint32())
			case 1:
				b = b[:r.IntN(len(b))]
			case 2:
				b = sealed(b[r.IntN(len(b)):])
			}
			parts = append(parts, b)
		}
		b := slices.Concat(parts...)
		d := diskWith(t, b)
		first := open(t, d)
		valid, _ := d.Read(file)
		if !bytes.HasPrefix(b, valid) {
			t.Fatal("the file has other bytes")
		}
		again := open(t, d)
		fileIs(t, d, valid)
		head, at := first.Head()
		headAgain, atAgain := again.Head()
		if !slices.Equal(first.Names(), again.Names()) || !slices.Equal(first.Log(), again.Log()) || head != headAgain || at != atAgain {
			t.Fatalf("there are %q, and then %q", first.Names(), again.Names())
		}
	}
}

// P10.1: the document's seventh example, and the chapter's.
func TestExamples(t *testing.T) {
	d := disk.New(1000)
	r := open(t, d)
	do(t, r, set(main, 0, 1))
	if head, id := r.Head(); head != main || id != num(1) {
		t.Errorf("HEAD is %q, %v", head, id)
	}
	check(t, "Do", r.Do(set(main, 0, 1)), api.ErrOld)
	two := Tx{Updates: []Update{{"tags/a", num(0), num(1)}, {main, num(2), num(3)}}}
	check(t, "Do", r.Do(two), api.ErrOld)
	expect(t, r, set(main, 0, 1))
	expect(t, open(t, d), set(main, 0, 1))
}
