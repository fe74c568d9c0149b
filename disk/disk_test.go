package disk

import (
	"bytes"
	"math"
	"math/rand"
	"slices"
	"strconv"
	"strings"
	"testing"

	"pollard/api"
)

// check fails the test unless a call answered as it should.
func check(t *testing.T, call string, got, want api.Errno) {
	t.Helper()
	if got != want {
		t.Fatalf("%s answers %d, not %d", call, got, want)
	}
}

// contents returns all files as "name=bytes".
func contents(t *testing.T, d *Disk) []string {
	t.Helper()
	var out []string
	for _, name := range d.Names() {
		b, err := d.Read(name)
		check(t, "Read "+name, err, api.OK)
		out = append(out, name+"="+string(b))
	}
	return out
}

func expect(t *testing.T, d *Disk, want ...string) {
	t.Helper()
	if got := contents(t, d); !slices.Equal(got, want) {
		t.Fatalf("the disk has %q, not %q", got, want)
	}
}

// perform runs calls that are written as words, each of which must answer OK.
func perform(t *testing.T, d *Disk, calls ...string) {
	t.Helper()
	for _, call := range calls {
		check(t, call, run(d, call), api.OK)
	}
}

func run(d *Disk, call string) api.Errno {
	w := append(strings.Split(call, " "), "", "")
	switch w[0] {
	case "create":
		return d.Create(w[1])
	case "append":
		return d.Append(w[1], []byte(w[2]))
	case "sync":
		return d.Sync(w[1])
	case "rename":
		return d.Rename(w[1], w[2])
	case "remove":
		return d.Remove(w[1])
	case "flush":
		return d.Flush()
	}
	panic("no such call: " + call)
}

var steps = []string{"create new", "append a xy", "sync a", "rename a b", "rename a a", "remove a", "flush"}

// P5.1: the example of the chapter, and each other number of turns.
func TestExample(t *testing.T) {
	for _, c := range []struct {
		turns int
		keep  []int
		want  []string
	}{
		{1, []int{1}, []string{"a=abcd", "b="}},
		{0, []int{1}, []string{"a=abcd"}},
		{0, nil, []string{"a=abc"}},
		{2, []int{1}, []string{"b=", "c=abcd"}},
		{3, []int{2}, []string{"b=", "c=abcde"}},
		{math.MaxInt, []int{math.MaxInt}, []string{"b=", "c=abcde"}},
		{-1, []int{-1}, []string{"a=abc"}},
		{math.MinInt, []int{math.MinInt}, []string{"a=abc"}},
	} {
		d := New(100)
		perform(t, d, "create a", "append a abc", "sync a", "flush", "append a de", "create b", "rename a c")
		d.Crash(c.turns, c.keep)
		expect(t, d, c.want...)
	}
}

// P5.1: a new disk has nothing, and its power is on.
func TestNew(t *testing.T) {
	for _, c := range [][2]int{{0, 0}, {-1, 0}, {math.MinInt, 0}, {7, 7}, {math.MaxInt, math.MaxInt}} {
		d := New(c[0])
		expect(t, d)
		if d.Room() != c[1] || d.Down() {
			t.Errorf("New(%d) has room for %d bytes", c[0], d.Room())
		}
		check(t, "flush", d.Flush(), api.OK)
		d.Crash(1, []int{1})
		expect(t, d)
	}
}

// P5.1: which names are valid. Any bytes are, from 1 to 100 of them.
func TestValidNames(t *testing.T) {
	long := strings.Repeat("n", 100)
	for _, name := range []string{"a", "\x00", " ", "/", "\xff\xfe", "o/tmp", ".", long} {
		d := New(10)
		check(t, "Create", d.Create(name), api.OK)
		check(t, "Create", d.Create("other"), api.OK)
		check(t, "Remove", d.Remove(name), api.OK)
		check(t, "Rename", d.Rename("other", name), api.OK)
		if got := d.Names(); !slices.Equal(got, []string{name}) {
			t.Errorf("the names are %q, not %q", got, name)
		}
	}
	for _, name := range []string{"", long + "n", strings.Repeat("n", 1000)} {
		d := New(10)
		check(t, "Create", d.Create(name), api.ErrArg)
		perform(t, d, "create a")
		check(t, "Rename", d.Rename("a", name), api.ErrArg)
		check(t, "Rename", d.Rename("none", name), api.ErrArg)
		check(t, "Rename", d.Rename(name, "b"), api.ErrNone)
		check(t, "Append", d.Append(name, nil), api.ErrNone)
		check(t, "Sync", d.Sync(name), api.ErrNone)
		check(t, "Remove", d.Remove(name), api.ErrNone)
		_, err := d.Read(name)
		check(t, "Read", err, api.ErrNone)
		expect(t, d, "a=")
	}
}

// P5.1: a name that does not exist.
func TestNone(t *testing.T) {
	d := New(0)
	perform(t, d, "create a", "create b", "rename a c", "remove b")
	for _, name := range []string{"a", "b", "d"} {
		for _, call := range []string{"append " + name + " xyz", "append " + name, "sync " + name, "rename " + name + " e", "rename " + name + " " + name, "remove " + name} {
			check(t, call, run(d, call), api.ErrNone)
		}
		b, err := d.Read(name)
		check(t, "Read", err, api.ErrNone)
		if b != nil {
			t.Error("Read answers bytes beside an error")
		}
	}
	expect(t, d, "c=")
}

// P5.1: what each call does to what is there.
func TestCalls(t *testing.T) {
	for _, c := range []struct {
		calls, want string
	}{
		{"create c", "a=1 b=2 c="},
		{"append a xy", "a=1xy b=2"},
		{"append a", "a=1 b=2"},
		{"append a x,append a y,append b z", "a=1xy b=2z"},
		{"sync a", "a=1 b=2"},
		{"flush", "a=1 b=2"},
		{"rename a c", "b=2 c=1"},
		{"rename a b", "b=1"},
		{"rename b a", "a=2"},
		{"rename a a", "a=1 b=2"},
		{"rename a c,rename b a,rename c b", "a=2 b=1"},
		{"remove a", "b=2"},
		{"remove a,create a", "a= b=2"},
		{"rename a c,create a,append a new", "a=new b=2 c=1"},
		{"rename a b,append b x", "b=1x"},
	} {
		d := New(100)
		perform(t, d, "create b", "create a", "append a 1", "append b 2")
		perform(t, d, strings.Split(c.calls, ",")...)
		expect(t, d, strings.Split(c.want, " ")...)
	}
}

// P5.1: Create of a name that exists, also when there are as many names as may be.
func TestManyNames(t *testing.T) {
	d := New(10)
	for i := range api.MaxFiles {
		check(t, "Create", d.Create("f"+strconv.Itoa(i)), api.OK)
		check(t, "Create", d.Create("f"+strconv.Itoa(i)), api.ErrTwice)
	}
	check(t, "Create", d.Create("g"), api.ErrMany)
	check(t, "Create", d.Create("f7"), api.ErrTwice)
	check(t, "Create", d.Create(""), api.ErrArg)
	if n := len(d.Names()); n != api.MaxFiles {
		t.Fatalf("there are %d names", n)
	}
	perform(t, d, "rename f7 g", "rename g g")
	check(t, "Create", d.Create("f7"), api.ErrMany)
	perform(t, d, "rename f8 f9", "create f7")
	check(t, "Create", d.Create("f8"), api.ErrMany)
	perform(t, d, "remove f7", "create f8")
	check(t, "Create", d.Create("f7"), api.ErrMany)
	d.Crash(api.MaxFiles, nil)
	check(t, "Create", d.Create("g"), api.ErrMany)
	perform(t, d, "remove f0", "create h")
	d.Crash(1, nil)
	perform(t, d, "create h")
	check(t, "Create", d.Create("f0"), api.ErrMany)
}

// P5.1: space counts the bytes of the files that have a current name.
func TestRoom(t *testing.T) {
	d := New(5)
	room := func(want int) {
		t.Helper()
		if got := d.Room(); got != want {
			t.Fatalf("there is room for %d bytes, not %d", got, want)
		}
	}
	perform(t, d, "create a", "create b", "append a abc")
	room(2)
	check(t, "Append", d.Append("b", []byte("123")), api.ErrRoom)
	check(t, "Append", d.Append("none", []byte("123")), api.ErrNone)
	expect(t, d, "a=abc", "b=")
	perform(t, d, "append b 12")
	room(0)
	check(t, "Append", d.Append("a", []byte("d")), api.ErrRoom)
	check(t, "Append", d.Append("a", nil), api.OK)
	perform(t, d, "rename a c", "rename c c", "sync b", "flush")
	room(0)
	perform(t, d, "rename b c")
	room(3)
	perform(t, d, "append c 345", "remove c")
	room(5)
	d.Crash(0, []int{0})
	expect(t, d, "b=12", "c=")
	room(3)
}

// P5.1: after a Crash the files can have more bytes than allowed.
func TestRoomPassed(t *testing.T) {
	d := New(3)
	perform(t, d, "create a", "create b", "flush", "append a abc", "sync a", "remove a", "append b de", "sync b")
	if d.Room() != 1 {
		t.Fatalf("there is room for %d bytes, not 1", d.Room())
	}
	d.Crash(0, nil)
	expect(t, d, "a=abc", "b=de")
	if d.Room() != 0 {
		t.Fatalf("there is room for %d bytes, not 0", d.Room())
	}
	check(t, "Append", d.Append("a", []byte("x")), api.ErrRoom)
	check(t, "Append", d.Append("a", []byte{}), api.OK)
	perform(t, d, "create c", "rename b c", "rename c c", "sync c", "flush")
	if d.Room() != 0 {
		t.Fatalf("there is room for %d bytes, not 0", d.Room())
	}
	perform(t, d, "remove c")
	if d.Room() != 0 {
		t.Fatalf("there is room for %d bytes, not 0", d.Room())
	}
	perform(t, d, "remove a")
	if d.Room() != 3 {
		t.Fatalf("there is room for %d bytes, not 3", d.Room())
	}
}

// P5.1: the power fails in the step that Fail says, which is not performed; it stays off until a Crash.
func TestFail(t *testing.T) {
	for _, call := range steps {
		for n := 1; n <= 4; n++ {
			d := New(20)
			perform(t, d, "create a", "append a 1", "create c")
			d.Fail(n)
			for range n - 1 {
				perform(t, d, "append c z")
			}
			before := contents(t, d)
			if d.Down() {
				t.Fatalf("the power is off ahead of step %d", n)
			}
			check(t, call, run(d, call), api.ErrDown)
			if !d.Down() {
				t.Fatalf("%s: the power is not off after step %d", call, n)
			}
			d.Crash(math.MaxInt, []int{99, 99, 99})
			expect(t, d, before...)
			if d.Down() {
				t.Fatal("the power is off after Crash")
			}
		}
	}
}

// P5.1: a step that was not performed has made nothing durable.
func TestFailedSyncAndFlush(t *testing.T) {
	for _, call := range []string{"sync a", "flush"} {
		d := New(20)
		perform(t, d, "create a", "flush", "append a 1", "create b")
		d.Fail(1)
		check(t, call, run(d, call), api.ErrDown)
		d.Crash(0, nil)
		expect(t, d, "a=")
	}
}

// P5.1: calls that return another error are no steps, and neither are the other functions.
func TestNoSteps(t *testing.T) {
	d := New(3)
	perform(t, d, "create a", "append a abc")
	d.Fail(2)
	for _, c := range []struct {
		call string
		want api.Errno
	}{
		{"create ", api.ErrArg}, {"create a", api.ErrTwice}, {"append a d", api.ErrRoom}, {"append b d", api.ErrNone},
		{"sync b", api.ErrNone}, {"rename b c", api.ErrNone}, {"rename a ", api.ErrArg}, {"remove b", api.ErrNone},
	} {
		check(t, c.call, run(d, c.call), c.want)
		contents(t, d)
		d.Room()
		d.Down()
	}
	perform(t, d, "rename a a")
	check(t, "flush", d.Flush(), api.ErrDown)
	full := New(0)
	for i := range api.MaxFiles {
		check(t, "Create", full.Create(strconv.Itoa(i)), api.OK)
	}
	full.Fail(2)
	check(t, "Create", full.Create("x"), api.ErrMany)
	check(t, "Sync", full.Sync("0"), api.OK)
	check(t, "Sync", full.Sync("0"), api.ErrDown)
}

// P5.1: every step counts, also one that changes nothing.
func TestAllSteps(t *testing.T) {
	for _, call := range append(slices.Clone(steps), "append a", "flush") {
		d := New(20)
		perform(t, d, "create a", "create c", "flush", "sync a")
		d.Fail(2)
		perform(t, d, call)
		check(t, "sync c", d.Sync("c"), api.ErrDown)
	}
}

// P5.1: the last Fail counts, a number less than 1 sets none, and a Crash sets none.
func TestFailAgain(t *testing.T) {
	d := New(20)
	perform(t, d, "create a")
	d.Fail(1)
	for _, n := range []int{0, -1, math.MinInt} {
		d.Fail(1)
		d.Fail(n)
		perform(t, d, "sync a", "flush", "sync a")
	}
	d.Fail(1)
	d.Fail(3)
	perform(t, d, "sync a", "sync a")
	d.Fail(2)
	perform(t, d, "sync a")
	d.Crash(9, nil)
	perform(t, d, "sync a", "sync a", "sync a")
	d.Fail(math.MaxInt)
	perform(t, d, "sync a", "sync a")
}

// P5.1: while the power is off.
func TestDown(t *testing.T) {
	d := New(20)
	perform(t, d, "create b", "create a", "append a abc")
	d.Fail(1)
	check(t, "sync a", d.Sync("a"), api.ErrDown)
	for _, n := range []int{0, 1, 5} {
		d.Fail(n)
		for _, call := range append(slices.Clone(steps), "create ", "create a", "append none", "append a 123456789012345678901", "sync none", "rename none x", "rename a ", "remove none") {
			check(t, call, run(d, call), api.ErrDown)
		}
		for _, name := range []string{"a", "none", ""} {
			b, err := d.Read(name)
			check(t, "Read", err, api.ErrDown)
			if b != nil {
				t.Error("Read answers bytes beside an error")
			}
		}
		if !slices.Equal(d.Names(), []string{"a", "b"}) || d.Room() != 17 || !d.Down() {
			t.Errorf("without power: names %q, room %d, down %v", d.Names(), d.Room(), d.Down())
		}
	}
	d.Crash(2, []int{2})
	expect(t, d, "a=ab", "b=")
	perform(t, d, "sync a", "sync a", "sync a", "sync a", "sync a", "sync a")
}

// P5.1: the elements of keep are for the files with bytes that are not durable, in the order of the names.
func TestKeep(t *testing.T) {
	for _, c := range []struct {
		keep []int
		want string
	}{
		{nil, "B= a=1 b= c=12 d="},
		{[]int{}, "B= a=1 b= c=12 d="},
		{[]int{1}, "B=x a=1 b= c=12 d="},
		{[]int{0, 1}, "B= a=12 b= c=12 d="},
		{[]int{0, 2}, "B= a=123 b= c=12 d="},
		{[]int{0, 9}, "B= a=123 b= c=12 d="},
		{[]int{-1, 0, 2}, "B= a=1 b= c=12 d=xy"},
		{[]int{math.MaxInt, math.MaxInt, math.MaxInt}, "B=xyz a=123 b= c=12 d=xyz"},
		{[]int{math.MinInt, math.MinInt, 3, 9}, "B= a=1 b= c=12 d=xyz"},
	} {
		d := New(100)
		perform(t, d, "create d", "create c", "create b", "create a", "create B")
		perform(t, d, "append a 1", "append c 12", "sync a", "sync b", "sync c", "append a 23", "append d xyz", "append B xyz")
		d.Crash(5, c.keep)
		expect(t, d, strings.Split(c.want, " ")...)
		d.Crash(0, nil)
		expect(t, d, strings.Split(c.want, " ")...)
	}
}

// P5.1: a file that has lost its name takes no element of keep.
func TestKeepSkipsUnnamed(t *testing.T) {
	d := New(100)
	perform(t, d, "create a", "append a xyz", "create b", "append b xyz", "remove a", "create c", "append c xyz", "rename c b")
	d.Crash(99, []int{1, 2})
	expect(t, d, "b=x")
	perform(t, d, "create c")
	d.Crash(1, nil)
	expect(t, d, "b=x", "c=")
}

// P5.2: what was synced under a durable name exists after a Crash, whatever came later and whatever it keeps.
func TestSynced(t *testing.T) {
	for _, later := range [][]string{
		{}, {"append a more"}, {"create b"}, {"append a more", "create b", "append b x"}, {"rename a c"}, {"remove a"},
		{"remove a", "create a", "append a new", "sync a"}, {"create b", "append b new", "sync b", "rename b a"}, {"rename a a"},
	} {
		d := New(100)
		perform(t, d, "create a", "append a abc", "sync a", "flush")
		perform(t, d, later...)
		d.Crash(0, nil)
		expect(t, d, "a=abc")
		d.Crash(9, []int{9})
		expect(t, d, "a=abc")
	}
}

// P5.2: neither Sync without Flush nor Flush without Sync is enough; in either order both together are.
func TestHalfDurable(t *testing.T) {
	d := New(100)
	perform(t, d, "create a", "append a abc", "sync a")
	d.Crash(0, nil)
	expect(t, d)
	perform(t, d, "create a", "append a abc", "flush")
	d.Crash(0, nil)
	expect(t, d, "a=")
	perform(t, d, "append a abc", "sync a")
	d.Crash(0, nil)
	expect(t, d, "a=abc")
	perform(t, d, "rename a b", "flush")
	d.Crash(0, nil)
	expect(t, d, "b=abc")
}

// P5.2: bytes that follow others after a Crash take their place.
func TestAppendAfterCut(t *testing.T) {
	d := New(100)
	perform(t, d, "create a", "flush", "append a abcdef")
	d.Crash(0, []int{2})
	perform(t, d, "append a XY")
	expect(t, d, "a=abXY")
	d.Crash(0, []int{1})
	expect(t, d, "a=abX")
}

// P5.3: of the name changes the first ones are kept, as many as the Crash says.
func TestOrderOfChanges(t *testing.T) {
	calls := []string{"create b", "rename a c", "rename b a", "create d", "rename d d", "remove c", "rename a d", "create a"}
	states := []string{"a=1", "a=1 b=", "b= c=1", "a= c=1", "a= c=1 d=", "a= c=1 d=", "a= d=", "d=", "a= d="}
	for flushed := range len(calls) + 1 {
		for done := flushed; done <= len(calls); done++ {
			for turns := range len(calls) + 2 {
				d := New(10)
				perform(t, d, "create a", "append a 1", "sync a", "flush")
				perform(t, d, calls[:flushed]...)
				perform(t, d, "flush")
				perform(t, d, calls[flushed:done]...)
				d.Crash(turns, nil)
				expect(t, d, strings.Split(states[min(flushed+turns, done)], " ")...)
			}
		}
	}
}

// P5.3: changes that a Crash has dropped do not come back.
func TestDroppedChanges(t *testing.T) {
	d := New(10)
	perform(t, d, "create a", "create b", "create c")
	d.Crash(1, nil)
	expect(t, d, "a=")
	perform(t, d, "flush", "create d")
	d.Crash(9, nil)
	expect(t, d, "a=", "d=")
	d.Crash(9, nil)
	expect(t, d, "a=", "d=")
}

// P5.4: arguments are neither retained nor modified, and results share no memory with the disk.
func TestMemory(t *testing.T) {
	d := New(1000)
	perform(t, d, "create a", "create b")
	all := []byte("abcdef")
	check(t, "Append", d.Append("a", all[:3]), api.OK)
	check(t, "Append", d.Append("a", all[:3]), api.OK)
	if string(all) != "abcdef" {
		t.Fatalf("Append has modified its argument: %q", all)
	}
	clear(all)
	expect(t, d, "a=abcabc", "b=")
	b, _ := d.Read("a")
	c, _ := d.Read("a")
	clear(b[:cap(b)])
	if string(c) != "abcabc" {
		t.Fatal("two results of Read share memory")
	}
	expect(t, d, "a=abcabc", "b=")
	perform(t, d, "append a d")
	if string(c) != "abcabc" {
		t.Fatal("a result of Read has changed")
	}
	n := d.Names()
	n = append(n[:0], "x", "y")
	expect(t, d, "a=abcabcd", "b=")
	if n[0] != "x" {
		t.Fatal("a result of Names has changed")
	}
	keep := []int{1, 2, 3}
	d.Crash(2, keep[:2])
	if !slices.Equal(keep, []int{1, 2, 3}) {
		t.Fatal("Crash has modified its argument")
	}
	expect(t, d, "a=a", "b=")
}

// model keeps a disk another way: as all the states of the names since the last Flush.
type model struct {
	room   int
	states []map[string]*modelFile
	left   int
	down   bool
}

type modelFile struct {
	all, safe string
}

func (m *model) now() map[string]*modelFile { return m.states[len(m.states)-1] }

func (m *model) total() int {
	n := 0
	for _, f := range m.now() {
		n += len(f.all)
	}
	return n
}

// refuses answers the first error of a call, but that of a step.
func (m *model) refuses(w []string) api.Errno {
	f := m.now()[w[1]]
	bad := func(s string) bool { return len(s) == 0 || len(s) > 100 }
	switch {
	case m.down:
		return api.ErrDown
	case w[0] == "create" && bad(w[1]), w[0] == "rename" && bad(w[2]):
		return api.ErrArg
	case w[0] != "create" && w[0] != "flush" && f == nil:
		return api.ErrNone
	case w[0] == "create" && f != nil:
		return api.ErrTwice
	case w[0] == "append" && m.total()+len(w[2]) > m.room && len(w[2]) > 0:
		return api.ErrRoom
	}
	return api.OK
}

func (m *model) run(w []string) api.Errno {
	if err := m.refuses(w); err != api.OK {
		return err
	}
	if m.left--; m.left == 0 {
		m.down = true
		return api.ErrDown
	}
	f := m.now()[w[1]]
	next := map[string]*modelFile{}
	for name, x := range m.now() {
		if name != w[1] || w[0] != "remove" && w[0] != "rename" {
			next[name] = x
		}
	}
	switch w[0] {
	case "create":
		next[w[1]] = &modelFile{}
	case "append":
		f.all += w[2]
	case "sync":
		f.safe = f.all
	case "rename":
		next[w[2]] = f
	case "flush":
		m.states = m.states[len(m.states)-1:]
	}
	if w[0] == "create" || w[0] == "rename" || w[0] == "remove" {
		m.states = append(m.states, next)
	}
	return api.OK
}

func (m *model) crash(turns int, keep []int) {
	at := 0
	for at < turns && at < len(m.states)-1 {
		at++
	}
	m.states = m.states[at : at+1]
	for _, name := range m.names() {
		f := m.now()[name]
		if f.all == f.safe {
			continue
		}
		end := len(f.safe)
		if len(keep) > 0 {
			for n := keep[0]; n > 0 && end < len(f.all); n-- {
				end++
			}
			keep = keep[1:]
		}
		f.all = f.all[:end]
		f.safe = f.all
	}
	m.left, m.down = 0, false
}

func (m *model) names() []string {
	var names []string
	for name := range m.now() {
		names = append(names, name)
	}
	slices.Sort(names)
	return names
}

// same fails the test unless the disk is what the model is.
func (m *model) same(t *testing.T, d *Disk) {
	t.Helper()
	if d.Down() != m.down || d.Room() != max(m.room-m.total(), 0) || !slices.Equal(d.Names(), m.names()) {
		t.Fatalf("down %v, room %d, names %q; the model: %v, %d, %q", d.Down(), d.Room(), d.Names(), m.down, m.room-m.total(), m.names())
	}
	for _, name := range append(m.names(), "none", "") {
		b, err := d.Read(name)
		f, exists := m.now()[name]
		switch {
		case m.down:
			check(t, "Read", err, api.ErrDown)
		case !exists:
			check(t, "Read", err, api.ErrNone)
		case err != api.OK || !bytes.Equal(b, []byte(f.all)):
			t.Fatalf("Read %s: %q, %d, not %q", name, b, err, f.all)
		}
	}
}

// P5.1, P5.2, P5.3: random calls, held against the model.
func TestRandomCalls(t *testing.T) {
	words := []string{"create", "create", "append", "append", "append", "sync", "rename", "rename", "remove", "flush"}
	names := []string{"a", "b", "c", "d", "e", "ab", "", strings.Repeat("x", 101)}
	for seed := range int64(400) {
		r := rand.New(rand.NewSource(seed))
		room := r.Intn(60) - 5
		d, m := New(room), &model{room: max(room, 0), states: []map[string]*modelFile{{}}}
		for range 300 {
			switch r.Intn(20) {
			case 0:
				n := r.Intn(12) - 2
				d.Fail(n)
				m.left = n
			case 1:
				turns, keep := r.Intn(8)-1, make([]int, r.Intn(5))
				for i := range keep {
					keep[i] = r.Intn(9) - 2
				}
				d.Crash(turns, keep)
				m.crash(turns, keep)
			default:
				w := []string{words[r.Intn(len(words))], names[r.Intn(len(names))], names[r.Intn(len(names))]}
				if w[0] == "append" {
					w[2] = strings.Repeat(string(rune('a'+r.Intn(26))), r.Intn(9))
				}
				check(t, strings.Join(w, " "), run(d, strings.Join(w, " ")), m.run(w))
			}
			m.same(t, d)
		}
	}
}
