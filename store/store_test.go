package store

import (
	"bytes"
	"math/rand/v2"
	"slices"
	"strconv"
	"strings"
	"sync"
	"testing"

	"pollard/api"
	"pollard/disk"
	"pollard/sha"
)

// check fails the test unless a call answered as it should.
func check(t *testing.T, call string, got, want api.Errno) {
	t.Helper()
	if got != want {
		t.Fatalf("%s answers %d, not %d", call, got, want)
	}
}

func put(t *testing.T, s *Store, text string) api.ID {
	t.Helper()
	id, err := s.Put([]byte(text))
	check(t, "Put", err, api.OK)
	if id != sha.Sum([]byte(text)) {
		t.Fatalf("Put of %q answers another ID", text)
	}
	return id
}

// putFails fails the test unless Put answers an error, and the zero ID beside it.
func putFails(t *testing.T, s *Store, text string, want api.Errno) {
	t.Helper()
	id, err := s.Put([]byte(text))
	check(t, "Put", err, want)
	if id != (api.ID{}) {
		t.Fatal("Put answers an ID beside an error")
	}
}

func get(t *testing.T, s *Store, id api.ID, want string) {
	t.Helper()
	b, err := s.Get(id)
	check(t, "Get", err, api.OK)
	if string(b) != want {
		t.Fatalf("Get answers %q, not %q", b, want)
	}
}

// getFails fails the test unless Get answers an error, and no bytes beside it.
func getFails(t *testing.T, s *Store, id api.ID, want api.Errno) {
	t.Helper()
	b, err := s.Get(id)
	check(t, "Get", err, want)
	if b != nil {
		t.Fatalf("Get answers %q beside an error", b)
	}
}

func idOf(text string) api.ID {
	return sha.Sum([]byte(text))
}

// file is the name of the file of an object with this text.
func file(text string) string {
	return "o/" + sha.Hex(idOf(text))
}

// idsOf returns the IDs of some texts in increasing order.
func idsOf(texts ...string) []api.ID {
	var ids []api.ID
	for _, text := range texts {
		ids = append(ids, idOf(text))
	}
	slices.SortFunc(ids, sha.Cmp)
	return ids
}

func expectIDs(t *testing.T, s *Store, texts ...string) {
	t.Helper()
	if got := s.IDs(); !slices.Equal(got, idsOf(texts...)) {
		t.Fatalf("IDs are %v, not those of %q", got, texts)
	}
}

// contents returns all files of a disk as "name=bytes".
func contents(d *disk.Disk) []string {
	var out []string
	for _, name := range d.Names() {
		b, _ := d.Read(name)
		out = append(out, name+"="+string(b))
	}
	return out
}

func expectFiles(t *testing.T, d *disk.Disk, want ...string) {
	t.Helper()
	slices.Sort(want)
	if got := contents(d); !slices.Equal(got, want) {
		t.Fatalf("the disk has %q, not %q", got, want)
	}
}

// stepsOf returns how many steps a call takes, as found by letting the power fail.
func stepsOf(t *testing.T, prepare func() (*Store, *disk.Disk), call func(s *Store)) int {
	t.Helper()
	for n := range 100 {
		s, d := prepare()
		d.Fail(n + 1)
		call(s)
		if !d.Down() {
			return n
		}
	}
	t.Fatal("a call takes 100 steps")
	return 0
}

// P6.1: the example of the chapter.
func TestExample(t *testing.T) {
	d := disk.New(100)
	s := Open(d)
	put(t, s, "a")
	expectFiles(t, d, "o/ca978112ca1bbdcafac231b39a23dc4da786eff8147c4e72b9807785afee48bb=a")
	expectIDs(t, s, "a")
	getFails(t, s, idOf("b"), api.ErrNone)
}

// P6.1: an empty store.
func TestEmpty(t *testing.T) {
	s := Open(disk.New(10))
	expectIDs(t, s)
	for _, id := range []api.ID{{}, {1}, idOf(""), idOf("a")} {
		if s.Has(id) {
			t.Error("an empty store has an object")
		}
		getFails(t, s, id, api.ErrNone)
		check(t, "Drop", s.Drop(id), api.ErrNone)
	}
	check(t, "Flush", s.Flush(), api.OK)
	if s.Reads() != 0 {
		t.Error("an empty store has been read")
	}
}

// P6.1: objects are any bytes, also none.
func TestPutAndGet(t *testing.T) {
	texts := []string{"", "a", "\x00", "o/tmp", "\xff\xfe\n", strings.Repeat("long", 5000)}
	d := disk.New(100_000)
	s := Open(d)
	for i, text := range texts {
		if s.Has(idOf(text)) {
			t.Errorf("%q is there too early", text)
		}
		id := put(t, s, text)
		get(t, s, id, text)
		if !s.Has(id) {
			t.Errorf("%q is not there", text)
		}
		expectIDs(t, s, texts[:i+1]...)
	}
	var want []string
	for _, text := range texts {
		want = append(want, file(text)+"="+text)
	}
	expectFiles(t, d, want...)
	for i, text := range texts {
		check(t, "Drop", s.Drop(idOf(text)), api.OK)
		check(t, "Drop", s.Drop(idOf(text)), api.ErrNone)
		getFails(t, s, idOf(text), api.ErrNone)
		if s.Has(idOf(text)) {
			t.Errorf("%q is there after Drop", text)
		}
		expectIDs(t, s, texts[i+1:]...)
	}
	expectFiles(t, d)
}

// P6.1: IDs are in increasing order, and only names of the right form count.
func TestIDs(t *testing.T) {
	d := disk.New(1000)
	s := Open(d)
	digits := sha.Hex(idOf("x"))
	for _, name := range []string{"o/", "o", "o/tmp", "p/" + digits, digits, "o/" + digits[1:], "o/" + digits + "0", "o//" + digits[1:],
		"O/" + digits, "o/" + strings.ToUpper(digits), "o/g" + digits[1:], "o/\u00e4" + digits[2:], " o/" + digits} {
		check(t, "Create", d.Create(name), api.OK)
	}
	expectIDs(t, s)
	var texts []string
	for i := range 50 {
		texts = append(texts, strconv.Itoa(i))
		put(t, s, texts[i])
	}
	expectIDs(t, s, texts...)
	check(t, "Create", d.Create("o/"+strings.Repeat("0", 64)), api.OK)
	check(t, "Create", d.Create("o/"+strings.Repeat("f", 64)), api.OK)
	ids := s.IDs()
	if len(ids) != 52 || ids[0] != (api.ID{}) || ids[51][31] != 255 || !slices.IsSortedFunc(ids, sha.Cmp) {
		t.Errorf("IDs are %v", ids)
	}
	if !s.Has(api.ID{}) || s.Has(api.ID{1}) {
		t.Error("Has asks for more than the file")
	}
	getFails(t, s, api.ID{}, api.ErrBad)
	check(t, "Drop", s.Drop(api.ID{}), api.OK)
}

// P6.1: a file whose bytes are not its own.
func TestBadFile(t *testing.T) {
	for _, other := range []string{"", "b", "aa", "A"} {
		d := disk.New(100)
		s := Open(d)
		d.Create(file("a"))
		d.Append(file("a"), []byte(other))
		putFails(t, s, "a", api.ErrBad)
		getFails(t, s, idOf("a"), api.ErrBad)
		if !s.Has(idOf("a")) {
			t.Error("the file is not there")
		}
		expectIDs(t, s, "a")
		expectFiles(t, d, file("a")+"="+other)
		check(t, "Drop", s.Drop(idOf("a")), api.OK)
		put(t, s, "a")
		get(t, s, idOf("a"), "a")
	}
}

// P6.1: two stores of one disk, one after the other.
func TestOpenAgain(t *testing.T) {
	d := disk.New(100)
	put(t, Open(d), "a")
	s := Open(d)
	get(t, s, idOf("a"), "a")
	put(t, s, "a")
	expectIDs(t, s, "a")
	if s.Reads() != 1 || Open(d).Reads() != 0 {
		t.Error("Reads does not start anew")
	}
}

// P6.1: each step of Put, and what there is when the power fails in it.
func TestStepsOfPut(t *testing.T) {
	whole := file("abc") + "=abc"
	for _, c := range []struct {
		fail   int
		now    []string // what there is, if all is kept
		synced []string // what there is, if no bytes are kept but those synced
	}{
		{1, []string{"o/tmp=x"}, []string{"o/tmp="}},
		{2, nil, nil},
		{3, []string{"o/tmp="}, []string{"o/tmp="}},
		{4, []string{"o/tmp=abc"}, []string{"o/tmp="}},
		{5, []string{"o/tmp=abc"}, []string{"o/tmp=abc"}},
		{6, []string{whole}, []string{whole}},
	} {
		for _, left := range []bool{true, false} {
			if !left && c.fail == 1 {
				continue
			}
			for _, keep := range []int{9, 0} {
				d := disk.New(100)
				s := Open(d)
				fail := c.fail - 1
				if left {
					fail = c.fail
					d.Create("o/tmp")
					d.Append("o/tmp", []byte("x"))
				}
				d.Fail(fail)
				if c.fail < 6 {
					putFails(t, s, "abc", api.ErrDown)
				} else {
					put(t, s, "abc")
				}
				d.Crash(9, []int{keep})
				if keep == 9 {
					expectFiles(t, d, c.now...)
				} else {
					expectFiles(t, d, c.synced...)
				}
				put(t, s, "abc")
				expectFiles(t, d, whole)
			}
		}
	}
}

// P6.1: Remove is only a step if there is something to remove; Put has no Flush, and Flush is one step.
func TestNumberOfSteps(t *testing.T) {
	fresh := func() (*Store, *disk.Disk) {
		d := disk.New(100)
		return Open(d), d
	}
	left := func() (*Store, *disk.Disk) {
		s, d := fresh()
		d.Create("o/tmp")
		return s, d
	}
	there := func() (*Store, *disk.Disk) {
		s, d := left()
		d.Create(file("a"))
		d.Append(file("a"), []byte("a"))
		return s, d
	}
	bad := func() (*Store, *disk.Disk) {
		s, d := left()
		d.Create(file("a"))
		return s, d
	}
	putA := func(s *Store) { s.Put([]byte("a")) }
	for i, c := range []struct {
		prepare func() (*Store, *disk.Disk)
		call    func(s *Store)
		want    int
	}{
		{fresh, putA, 4}, {left, putA, 5}, {there, putA, 0}, {bad, putA, 0},
		{there, func(s *Store) { s.Flush() }, 1},
		{there, func(s *Store) { s.Drop(idOf("a")) }, 1},
		{there, func(s *Store) { s.Drop(idOf("b")) }, 0},
		{there, func(s *Store) { s.Get(idOf("a")); s.Get(idOf("b")); s.Has(idOf("a")); s.IDs(); s.Reads() }, 0},
	} {
		if n := stepsOf(t, c.prepare, c.call); n != c.want {
			t.Errorf("case %d takes %d steps, not %d", i, n, c.want)
		}
	}
}

// P6.1: the first error of the steps is returned, and the next Put starts from what is left.
func TestErrorsOfSteps(t *testing.T) {
	d := disk.New(5)
	s := Open(d)
	putFails(t, s, "123456", api.ErrRoom)
	putFails(t, s, "1234567", api.ErrRoom)
	expectIDs(t, s)
	if s.Has(idOf("123456")) {
		t.Error("an object without space is there")
	}
	put(t, s, "12345")
	put(t, s, "")
	putFails(t, s, "1", api.ErrRoom)
	put(t, s, "12345")
	expectIDs(t, s, "", "12345")
	check(t, "Drop", s.Drop(idOf("12345")), api.OK)
	put(t, s, "1")
	expectFiles(t, d, file("")+"=", file("1")+"=1")
}

// P6.1: as many names as the disk can have.
func TestManyFiles(t *testing.T) {
	d := disk.New(100)
	s := Open(d)
	for i := range api.MaxFiles - 1 {
		check(t, "Create", d.Create(strconv.Itoa(i)), api.OK)
	}
	put(t, s, "a")
	putFails(t, s, "b", api.ErrMany)
	put(t, s, "a")
	check(t, "Remove", d.Remove("0"), api.OK)
	check(t, "Create", d.Create("o/tmp"), api.OK)
	put(t, s, "b")
	putFails(t, s, "c", api.ErrMany)
	expectIDs(t, s, "a", "b")
}

// P6.1: while the power is off, ErrDown is ahead of all other errors; names are known.
func TestDown(t *testing.T) {
	d := disk.New(100)
	s := Open(d)
	put(t, s, "a")
	d.Create(file("bad"))
	d.Fail(1)
	check(t, "Flush", s.Flush(), api.ErrDown)
	for _, text := range []string{"a", "bad", "none", "", strings.Repeat("much", 100)} {
		putFails(t, s, text, api.ErrDown)
		getFails(t, s, idOf(text), api.ErrDown)
		check(t, "Drop", s.Drop(idOf(text)), api.ErrDown)
	}
	getFails(t, s, api.ID{}, api.ErrDown)
	check(t, "Flush", s.Flush(), api.ErrDown)
	if !s.Has(idOf("a")) || !s.Has(idOf("bad")) || s.Has(idOf("none")) || s.Has(api.ID{}) {
		t.Error("Has without power")
	}
	expectIDs(t, s, "a", "bad")
	if s.Reads() != 0 {
		t.Error("a read without power counts")
	}
	d.Crash(99, nil)
	get(t, s, idOf("a"), "a")
}

// P6.1: Reads counts what Get answers with OK or ErrBad, and nothing else.
func TestReads(t *testing.T) {
	d := disk.New(100)
	s := Open(d)
	put(t, s, "a")
	put(t, s, "a")
	d.Create(file("bad"))
	putFails(t, s, "bad", api.ErrBad)
	s.Has(idOf("a"))
	s.IDs()
	getFails(t, s, idOf("none"), api.ErrNone)
	if s.Reads() != 0 {
		t.Fatalf("there were %d reads, not 0", s.Reads())
	}
	for n := int64(1); n <= 6; n += 2 {
		get(t, s, idOf("a"), "a")
		if s.Reads() != n {
			t.Fatalf("there were %d reads, not %d", s.Reads(), n)
		}
		getFails(t, s, idOf("bad"), api.ErrBad)
		if s.Reads() != n+1 {
			t.Fatalf("there were %d reads, not %d", s.Reads(), n+1)
		}
	}
}

// P6.1: reads are counted in all goroutines.
func TestReadsInManyGoroutines(t *testing.T) {
	d := disk.New(100)
	s := Open(d)
	put(t, s, "a")
	d.Create(file("bad"))
	var all sync.WaitGroup
	for range 16 {
		all.Go(func() {
			for range 500 {
				s.Get(idOf("a"))
				s.Get(idOf("bad"))
				s.Get(idOf("none"))
			}
		})
	}
	all.Wait()
	if s.Reads() != 16*500*2 {
		t.Errorf("there were %d reads", s.Reads())
	}
}

// P6.2: what was stored before a Flush exists after a Crash; what was stored after it exists with its bytes or not at all.
func TestCrash(t *testing.T) {
	for turns := range 8 {
		for keep := range 4 {
			d := disk.New(100)
			s := Open(d)
			put(t, s, "old")
			put(t, s, "")
			check(t, "Flush", s.Flush(), api.OK)
			put(t, s, "new")
			put(t, s, "newer")
			check(t, "Drop", s.Drop(idOf("")), api.OK)
			d.Crash(turns, []int{keep, keep, keep})
			get(t, s, idOf("old"), "old")
			for i, text := range []string{"new", "newer"} {
				if s.Has(idOf(text)) != (turns >= 2*i+2) {
					t.Errorf("turns %d: %q", turns, text)
				}
			}
			if s.Has(idOf("")) != (turns < 5) {
				t.Errorf("turns %d: the object that was dropped", turns)
			}
			for _, id := range s.IDs() {
				_, err := s.Get(id)
				check(t, "Get", err, api.OK)
			}
		}
	}
}

// P6.3: storing the same bytes again performs no step, so it needs neither space nor a name.
func TestPutAgain(t *testing.T) {
	d := disk.New(3)
	s := Open(d)
	put(t, s, "abc")
	d.Create("o/tmp")
	before := contents(d)
	d.Fail(1)
	for range 5 {
		put(t, s, "abc")
	}
	expectFiles(t, d, before...)
	if d.Down() {
		t.Error("storing again is a step")
	}
	check(t, "Flush", s.Flush(), api.ErrDown)
}

// P6.4: results are newly allocated, and arguments are not retained.
func TestMemory(t *testing.T) {
	s := Open(disk.New(100))
	memory := []byte("abcdef")
	id, err := s.Put(memory[:3])
	check(t, "Put", err, api.OK)
	if string(memory) != "abcdef" {
		t.Fatalf("Put has modified its argument: %q", memory)
	}
	clear(memory)
	get(t, s, id, "abc")
	a, _ := s.Get(id)
	b, _ := s.Get(id)
	clear(a[:cap(a)])
	if string(b) != "abc" {
		t.Error("two results of Get share memory")
	}
	get(t, s, id, "abc")
	put(t, s, "x")
	first, second := s.IDs(), s.IDs()
	clear(first[:cap(first)])
	if !slices.Equal(second, idsOf("abc", "x")) {
		t.Error("two results of IDs share memory")
	}
	expectIDs(t, s, "abc", "x")
}

// trial is a store with what is known of it: what exists now, and what must exist whatever a Crash keeps.
type trial struct {
	*testing.T
	d    *disk.Disk
	s    *Store
	r    *rand.Rand
	now  map[string]bool
	sure map[string]bool
}

func (x *trial) act() {
	text := strconv.Itoa(x.r.IntN(12))
	switch x.r.IntN(9) {
	case 0, 1, 2, 3:
		x.put(text)
	case 4:
		if x.s.Flush() == api.OK {
			x.sure = map[string]bool{}
			for text := range x.now {
				x.sure[text] = true
			}
		}
	case 5:
		delete(x.sure, text) // it is not sure any more that it is there, whether it is dropped or not
		switch err := x.s.Drop(idOf(text)); {
		case err == api.OK && x.now[text]:
			delete(x.now, text)
		case err != api.ErrDown && (err != api.ErrNone || x.now[text]):
			x.Fatalf("Drop answers %d", err)
		}
	case 6:
		x.d.Fail(x.r.IntN(12))
	case 7:
		x.d.Crash(x.r.IntN(9), []int{x.r.IntN(4), x.r.IntN(4), x.r.IntN(4)})
		x.crashed()
	case 8:
		x.s = Open(x.d)
	}
}

func (x *trial) put(text string) {
	id, err := x.s.Put([]byte(text))
	switch {
	case err == api.OK && id == idOf(text):
		x.now[text] = true
	case id != (api.ID{}) || !x.d.Down() && (err != api.ErrRoom || x.now[text]):
		x.Fatalf("Put answers %v, %d", id, err)
	}
}

// crashed fails the test unless what is sure exists, and takes over what a Crash has left.
func (x *trial) crashed() {
	x.now = map[string]bool{}
	for i := range 12 {
		if text := strconv.Itoa(i); x.s.Has(idOf(text)) {
			x.now[text] = true
		}
	}
	for text := range x.sure {
		if !x.now[text] {
			x.Fatalf("%q is lost", text)
		}
	}
	x.sure = map[string]bool{}
	for text := range x.now {
		x.sure[text] = true
	}
}

// look fails the test unless the store has what it should have.
func (x *trial) look() {
	var texts []string
	for i := range 12 {
		text := strconv.Itoa(i)
		if x.now[text] {
			texts = append(texts, text)
		}
		b, err := x.s.Get(idOf(text))
		switch {
		case x.s.Has(idOf(text)) != x.now[text]:
			x.Fatalf("Has of %q", text)
		case x.d.Down() && err != api.ErrDown:
			x.Fatalf("Get without power answers %d", err)
		case !x.d.Down() && x.now[text] && (err != api.OK || !bytes.Equal(b, []byte(text))):
			x.Fatalf("Get of %q answers %q, %d", text, b, err)
		case !x.d.Down() && !x.now[text] && err != api.ErrNone:
			x.Fatalf("Get of %q, which is not there, answers %d", text, err)
		}
	}
	expectIDs(x.T, x.s, texts...)
}

// P6.1 and P6.2: random calls and power failures.
func TestRandomCalls(t *testing.T) {
	for seed := range uint64(300) {
		r := rand.New(rand.NewPCG(seed, 6))
		d := disk.New(8 + r.IntN(12))
		x := &trial{T: t, d: d, s: Open(d), r: r, now: map[string]bool{}, sure: map[string]bool{}}
		for range 100 {
			x.act()
			x.look()
		}
	}
}
