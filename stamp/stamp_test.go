package stamp

import (
	"bytes"
	"cmp"
	"math"
	"math/rand/v2"
	"pollard/api"
	"pollard/enc"
	"reflect"
	"slices"
	"strings"
	"testing"
)

func at(t int64, r int) api.Stamp {
	return api.Stamp{T: t, R: r}
}

// edgeStamps are stamps in increasing order, around the edges of what is valid, and far beyond.
func edgeStamps() []api.Stamp {
	var out []api.Stamp
	for _, t := range []int64{math.MinInt64, -1, 0, 1, 2, api.MaxTime - 1, api.MaxTime, api.MaxTime + 1, math.MaxInt64} {
		for _, r := range []int{math.MinInt, -1, 0, 1, 2, api.MaxReplica - 1, api.MaxReplica, api.MaxReplica + 1, math.MaxInt} {
			out = append(out, at(t, r))
		}
	}
	return out
}

// P3.1: by T first, then by R, whatever they are.
func TestCmp(t *testing.T) {
	list := edgeStamps()
	for i, a := range list {
		for j, b := range list {
			if got := Cmp(a, b); got != cmp.Compare(i, j) {
				t.Errorf("Cmp(%v, %v) = %d", a, b, got)
			}
		}
	}
	if Cmp(at(3, 9), at(4, 1)) != -1 || Cmp(at(4, 1), at(4, 2)) != -1 {
		t.Error("the chapter's example")
	}
}

// P3.1: T from 1 to MaxTime, R from 1 to MaxReplica.
func TestRight(t *testing.T) {
	for _, s := range edgeStamps() {
		inTime := slices.Contains([]int64{1, 2, api.MaxTime - 1, api.MaxTime}, s.T)
		inReplica := slices.Contains([]int{1, 2, api.MaxReplica - 1, api.MaxReplica}, s.R)
		if Right(s) != (inTime && inReplica) {
			t.Errorf("Right(%v) = %v", s, Right(s))
		}
	}
	if Right(at(0, 0)) || Right(at(0, 1)) {
		t.Error("the root or the trash is a valid stamp")
	}
}

// P3.1: any bytes but three, 1 to 60 of them, and not the two names of dots.
func TestName(t *testing.T) {
	long := strings.Repeat("n", api.MaxName)
	for _, s := range []string{"a", "~", " ", "...", "....", ".a", "a.", "..a", ". ", ".\\", "a b", "\xff", "\xc3", "\u00e4\u4e16", "\u2028", "\r", "\x01", "trash", long, strings.Repeat(".", api.MaxName)} {
		if !Name(s) {
			t.Errorf("%q is no name", s)
		}
	}
	for _, s := range []string{"", ".", "..", "/", "\x00", "\n", long + "n", strings.Repeat("\u00e4", 31), strings.Repeat("n", 100_000)} {
		if Name(s) {
			t.Errorf("%.100q is a name", s)
		}
	}
}

// P3.1: a byte decides alone, wherever it stands.
func TestNameOfEachByte(t *testing.T) {
	for value := range 256 {
		c := string([]byte{byte(value)})
		ok := value != 0 && value != 10 && value != '/'
		for _, s := range []string{"a" + c, c + "a", "abc" + c + "def", strings.Repeat("x", 59) + c, "\xff" + c, c + "\u4e16"} {
			if Name(s) != ok {
				t.Errorf("Name(%q) = %v", s, Name(s))
			}
		}
		if value != '.' && Name(c) != ok {
			t.Errorf("Name(%q) = %v", c, Name(c))
		}
	}
}

// move is a valid Move at {5, 3}, changed.
func move(change func(o *api.Op)) api.Op {
	o := api.Op{Kind: api.Move, At: at(5, 3), Node: at(4, 2), Parent: at(3, 1), Name: "name"}
	change(&o)
	return o
}

// edit is a valid Edit at {5, 3}, changed.
func edit(change func(o *api.Op)) api.Op {
	o := api.Op{Kind: api.Edit, At: at(5, 3), Node: at(4, 2), Data: api.ID{31: 1}, Over: []api.Stamp{at(4, 7), at(5, 1)}}
	change(&o)
	return o
}

func manyStamps(n int) []api.Stamp {
	var out []api.Stamp
	for i := range n {
		out = append(out, at(int64(i/2+1), i%2+1))
	}
	return out
}

// validOps are operations that are just valid.
func validOps() []api.Op {
	greatest := at(api.MaxTime, api.MaxReplica)
	return []api.Op{
		{Kind: api.Move, At: at(1, 1), Node: at(1, 1), Name: "a"},
		move(func(o *api.Op) {}),
		move(func(o *api.Op) { o.Parent = at(0, 0) }),
		move(func(o *api.Op) { o.Parent = at(0, 1) }),
		move(func(o *api.Op) { o.Parent = at(1, 1) }),
		move(func(o *api.Op) { o.Parent = o.Node }),
		move(func(o *api.Op) { o.Parent = o.At }),
		move(func(o *api.Op) { o.Parent = greatest }),
		move(func(o *api.Op) { o.Node = o.At }),
		move(func(o *api.Op) { o.Node = at(5, 1) }),
		move(func(o *api.Op) { o.Node = at(4, api.MaxReplica) }),
		move(func(o *api.Op) { o.At = greatest }),
		move(func(o *api.Op) { o.At, o.Node = greatest, greatest }),
		move(func(o *api.Op) { o.Name = strings.Repeat("\xff", api.MaxName) }),
		move(func(o *api.Op) { o.Name = "..." }),
		move(func(o *api.Op) { o.Over = []api.Stamp{} }),
		edit(func(o *api.Op) {}),
		edit(func(o *api.Op) { o.Over = nil }),
		edit(func(o *api.Op) { o.Over = []api.Stamp{} }),
		edit(func(o *api.Op) { o.Over = []api.Stamp{at(1, 1)} }),
		edit(func(o *api.Op) { o.Over = []api.Stamp{o.Node, at(5, 2)} }),
		edit(func(o *api.Op) { o.Over = []api.Stamp{at(4, 1), at(4, 2), at(4, 3)} }),
		edit(func(o *api.Op) { o.Over = []api.Stamp{at(4, 65536)} }),
		edit(func(o *api.Op) { o.Node = at(5, 2) }),
		edit(func(o *api.Op) { o.Node = at(4, 4) }),
		edit(func(o *api.Op) { o.Data = api.ID{0: 128} }),
		edit(func(o *api.Op) { o.Data = api.ID(bytes.Repeat([]byte{255}, 32)) }),
		edit(func(o *api.Op) { o.At, o.Over = at(50, 1), manyStamps(api.MaxOps) }),
		edit(func(o *api.Op) { o.At = greatest }),
		edit(func(o *api.Op) { o.At, o.Node = greatest, at(api.MaxTime, api.MaxReplica-1) }),
	}
}

// wrongMoves are Moves that aren't valid, each for a single reason.
func wrongMoves() []api.Op {
	out := []api.Op{
		move(func(o *api.Op) { o.Kind = 0 }),
		move(func(o *api.Op) { o.Kind = 3 }),
		move(func(o *api.Op) { o.Kind = -1 }),
		move(func(o *api.Op) { o.Kind = api.Move + 1<<32 }),
		move(func(o *api.Op) { o.Kind = api.Edit }),
		move(func(o *api.Op) { o.Node = at(5, 4) }),
		move(func(o *api.Op) { o.Node = at(6, 1) }),
		move(func(o *api.Op) { o.Data[0] = 1 }),
		move(func(o *api.Op) { o.Data[31] = 1 }),
		move(func(o *api.Op) { o.Over = []api.Stamp{at(1, 1)} }),
		move(func(o *api.Op) { o.Over = []api.Stamp{{}} }),
	}
	for _, s := range edgeStamps() {
		if Right(s) {
			continue
		}
		out = append(out, move(func(o *api.Op) { o.At = s }), move(func(o *api.Op) { o.At, o.Node = s, s }), move(func(o *api.Op) { o.Node = s }))
		if s != at(0, 0) && s != at(0, 1) {
			out = append(out, move(func(o *api.Op) { o.Parent = s }))
		}
	}
	for _, s := range []string{"", ".", "..", "a/b", "a\x00", "\nb", strings.Repeat("a", api.MaxName+1)} {
		out = append(out, move(func(o *api.Op) { o.Name = s }))
	}
	return out
}

// wrongEdits are Edits that aren't valid, each for a single reason.
func wrongEdits() []api.Op {
	out := []api.Op{
		edit(func(o *api.Op) { o.Kind = 0 }),
		edit(func(o *api.Op) { o.Kind = 3 }),
		edit(func(o *api.Op) { o.Kind = api.Edit - 1<<32 }),
		edit(func(o *api.Op) { o.Kind = api.Move }),
		edit(func(o *api.Op) { o.Node = o.At }),
		edit(func(o *api.Op) { o.Node = at(5, 4) }),
		edit(func(o *api.Op) { o.Node = at(6, 1) }),
		edit(func(o *api.Op) { o.Parent = at(0, 1) }),
		edit(func(o *api.Op) { o.Parent = at(1, 0) }),
		edit(func(o *api.Op) { o.Parent = at(3, 1) }),
		edit(func(o *api.Op) { o.Name = "a" }),
		edit(func(o *api.Op) { o.Data = api.ID{} }),
		edit(func(o *api.Op) { o.Over = []api.Stamp{at(5, 1), at(4, 7)} }),
		edit(func(o *api.Op) { o.Over = []api.Stamp{at(4, 2), at(4, 1)} }),
		edit(func(o *api.Op) { o.Over = []api.Stamp{at(4, 7), at(4, 7)} }),
		edit(func(o *api.Op) { o.Over = []api.Stamp{at(1, 1), at(3, 1), at(3, 1), at(4, 1)} }),
		edit(func(o *api.Op) { o.Over = []api.Stamp{at(1, 1), at(3, 1), at(2, 1), at(4, 1)} }),
		edit(func(o *api.Op) { o.Over = []api.Stamp{o.At} }),
		edit(func(o *api.Op) { o.Over = []api.Stamp{at(4, 1), at(5, 3)} }),
		edit(func(o *api.Op) { o.Over = []api.Stamp{at(5, 4)} }),
		edit(func(o *api.Op) { o.Over = []api.Stamp{at(6, 1)} }),
		edit(func(o *api.Op) { o.At, o.Over = at(50, 1), manyStamps(api.MaxOps+1) }),
	}
	for _, s := range edgeStamps() {
		if !Right(s) {
			out = append(out, edit(func(o *api.Op) { o.At = s }), edit(func(o *api.Op) { o.Node = s }),
				edit(func(o *api.Op) { o.Over = []api.Stamp{s} }))
		}
	}
	return append(out, edit(func(o *api.Op) { o.Over = []api.Stamp{at(3, 0), at(4, 1)} }),
		edit(func(o *api.Op) { o.Over = []api.Stamp{at(3, 1), at(3, 65537), at(4, 1)} }),
		edit(func(o *api.Op) { o.Over = []api.Stamp{at(3, 1), at(4, 1), at(5, 0)} }))
}

func wrongOps() []api.Op {
	return append(append(wrongMoves(), wrongEdits()...), api.Op{})
}

// P3.1: what is valid, at its edges, and what isn't.
func TestGood(t *testing.T) {
	for i, o := range validOps() {
		if !Good(o) {
			t.Errorf("operation %d is not valid: %v", i, o)
		}
	}
	for i, o := range wrongOps() {
		if Good(o) {
			t.Errorf("operation %d is valid: %v", i, o)
		}
	}
}

// P3.1: each field counts, and each element of Over.
func TestSame(t *testing.T) {
	changes := []func(o *api.Op){
		func(o *api.Op) { o.Kind++ },
		func(o *api.Op) { o.At.T++ },
		func(o *api.Op) { o.At.R++ },
		func(o *api.Op) { o.Node.T++ },
		func(o *api.Op) { o.Node.R++ },
		func(o *api.Op) { o.Parent.T++ },
		func(o *api.Op) { o.Parent.R++ },
		func(o *api.Op) { o.Name += "x" },
		func(o *api.Op) { o.Data[0]++ },
		func(o *api.Op) { o.Data[31]++ },
		func(o *api.Op) { o.Over = append(slices.Clone(o.Over), at(9, 9)) },
		func(o *api.Op) { o.Over = append([]api.Stamp{{}}, o.Over...) },
	}
	for _, o := range append(validOps(), wrongOps()...) {
		other := o
		other.Over = slices.Clone(o.Over)
		if !Same(o, o) || !Same(o, other) || !Same(other, o) {
			t.Errorf("not the same as itself: %v", o)
		}
		for i, change := range changes {
			other := o
			if change(&other); Same(o, other) || Same(other, o) {
				t.Errorf("the same with change %d: %v", i, o)
			}
		}
	}
}

// P3.1: the order of Over counts; nil and no elements are equivalent.
func TestSameOver(t *testing.T) {
	over := func(list ...api.Stamp) api.Op { return edit(func(o *api.Op) { o.Over = list }) }
	if !Same(over(), edit(func(o *api.Op) { o.Over = []api.Stamp{} })) || !Same(edit(func(o *api.Op) { o.Over = []api.Stamp{} }), over()) {
		t.Error("nil and no elements differ")
	}
	a, b, c := at(1, 1), at(2, 1), at(2, 2)
	for _, pair := range [][2]api.Op{{over(a), over(b)}, {over(a, b), over(b, a)}, {over(a, b), over(a)}, {over(a, b), over(b)}, {over(a, b, c), over(a, c, c)}, {over(b), over(c)}} {
		if Same(pair[0], pair[1]) || Same(pair[1], pair[0]) {
			t.Errorf("the same: %v", pair)
		}
	}
}

// encoded returns the encoding of an operation, valid or not, by the chapter's section 'Format'.
func encoded(o api.Op) []byte {
	nums := func(b []byte, nums ...int64) []byte {
		for _, n := range nums {
			b = enc.Num(b, n)
		}
		return b
	}
	b := nums(nil, int64(o.Kind), o.At.T, int64(o.At.R), o.Node.T, int64(o.Node.R))
	if o.Kind == api.Move {
		return enc.Text(nums(b, o.Parent.T, int64(o.Parent.R)), o.Name)
	}
	b = nums(enc.Id(b, o.Data), int64(len(o.Over)))
	for _, s := range o.Over {
		b = nums(b, s.T, int64(s.R))
	}
	return b
}

// P3.1: the encodings, byte by byte.
func TestPutBytes(t *testing.T) {
	example := api.Op{Kind: api.Move, At: at(5, 1), Node: at(5, 1), Name: "a"}
	if got := Put(nil, example); !bytes.Equal(got, []byte{1, 5, 1, 5, 1, 0, 0, 1, 97}) {
		t.Errorf("the chapter's example is %v", got)
	}
	moved := api.Op{Kind: api.Move, At: at(300, 7), Node: at(200, 130), Parent: at(6, 5), Name: "b~"}
	if got := Put([]byte{9}, moved); !bytes.Equal(got, []byte{9, 1, 172, 2, 7, 200, 1, 130, 1, 6, 5, 2, 'b', '~'}) {
		t.Errorf("a Move is %v", got)
	}
	data := api.ID(bytes.Repeat([]byte{250, 11}, 16))
	edited := api.Op{Kind: api.Edit, At: at(9, 8), Node: at(7, 6), Data: data, Over: []api.Stamp{at(4, 3), at(4, 300)}}
	want := append(append([]byte{2, 9, 8, 7, 6}, data[:]...), 2, 4, 3, 4, 172, 2)
	if got := Put(nil, edited); !bytes.Equal(got, want) {
		t.Errorf("an Edit is %v", got)
	}
	edited.Over = nil
	if got := Put(nil, edited); !bytes.Equal(got, append(want[:37:37], 0)) {
		t.Errorf("an Edit over nothing is %v", got)
	}
}

// P3.1: bytes are followed by the encoding of a valid operation, and by nothing else.
func TestPut(t *testing.T) {
	for _, before := range [][]byte{nil, {}, {1, 2, 3}, bytes.Repeat([]byte{200}, 1000)} {
		for i, o := range validOps() {
			if got := Put(before, o); !bytes.Equal(got, append(bytes.Clone(before), encoded(o)...)) {
				t.Errorf("operation %d is %v", i, got)
			}
		}
		for i, o := range wrongOps() {
			if got := Put(before, o); !bytes.Equal(got, before) {
				t.Errorf("operation %d is not valid, and is %v", i, got)
			}
		}
	}
}

// checkGet checks that an operation is read from exactly its bytes, and that any fewer are none.
func checkGet(t *testing.T, o api.Op) {
	t.Helper()
	b := Put([]byte{7}, o)
	r := enc.Read(append(bytes.Clone(b), 9))
	if r.Num(7) != 7 || !Same(Get(r), o) || !r.Good() || r.Left() != 1 || r.Num(9) != 9 || !r.Done() {
		t.Errorf("not read back: %v", o)
	}
	for size := 1; size < len(b); size++ {
		checkNoOp(t, b[1:size])
	}
}

func checkNoOp(t *testing.T, b []byte) {
	t.Helper()
	r := enc.Read(b)
	if o := Get(r); !reflect.DeepEqual(o, api.Op{}) || r.Good() || r.Left() != 0 {
		t.Errorf("%v is read as %v", b, o)
	}
}

// P3.2: valid operations are read back.
func TestGet(t *testing.T) {
	for _, o := range validOps() {
		checkGet(t, o)
	}
	rnd := rand.New(rand.NewPCG(1, 1))
	for range 300 {
		checkGet(t, randomOp(rnd))
	}
}

func randomStamp(rnd *rand.Rand, most int64) api.Stamp {
	return at(1+rnd.Int64N(most), 1+rnd.IntN(api.MaxReplica)>>rnd.IntN(17))
}

// randomOp returns a valid operation.
func randomOp(rnd *rand.Rand) api.Op {
	now := 2 + rnd.Int64N(api.MaxTime-1)>>rnd.IntN(40)
	o := api.Op{Kind: 1 + rnd.IntN(2), At: randomStamp(rnd, 1), Node: randomStamp(rnd, now-1)}
	o.At.T = now
	if o.Kind == api.Move {
		o.Parent = randomStamp(rnd, api.MaxTime)
		o.Name = strings.Repeat("\xfe", 1+rnd.IntN(api.MaxName))
		return o
	}
	o.Data[rnd.IntN(32)] = 1
	for range rnd.IntN(api.MaxOps + 1) {
		o.Over = append(o.Over, randomStamp(rnd, now-1))
	}
	slices.SortFunc(o.Over, Cmp)
	o.Over = slices.Compact(o.Over)
	return o
}

// P3.2: what isn't valid is not read, though it has the form.
func TestGetWrongOps(t *testing.T) {
	for _, o := range wrongOps() {
		if b := encoded(o); !isOp(o, b) {
			checkNoOp(t, b)
			checkNoOp(t, append(b, bytes.Repeat([]byte{0}, 50)...))
		}
	}
}

// isOp reports whether the encoding of a wrong operation can't tell it from a valid one: its form leaves a field out, or limits a number.
func isOp(o api.Op, b []byte) bool {
	for _, valid := range validOps() {
		if bytes.Equal(encoded(valid), b) {
			return true
		}
	}
	return o.Kind == api.Move && (o.Data != api.ID{} || len(o.Over) > 0) ||
		o.Kind == api.Edit && (o.Parent != api.Stamp{} || o.Name != "")
}

// P3.2: a number that isn't encoded in as few bytes as possible is none, in each place of an operation.
func TestGetLongNumbers(t *testing.T) {
	b := Put(nil, api.Op{Kind: api.Move, At: at(5, 1), Node: at(5, 1), Name: "a"})
	for i := range 8 {
		long := append(append(bytes.Clone(b[:i]), b[i]|128, 0), b[i+1:]...)
		checkNoOp(t, long)
	}
	b = Put(nil, edit(func(o *api.Op) { o.Over = []api.Stamp{at(1, 1)} }))
	for i := range b {
		if i < 5 || i >= 37 {
			long := append(append(bytes.Clone(b[:i]), b[i]|128, 0), b[i+1:]...)
			checkNoOp(t, long)
		}
	}
}

// P3.2: whatever the bytes are, an operation that is read is valid, and has exactly these bytes.
func TestGetOfAnyBytes(t *testing.T) {
	rnd := rand.New(rand.NewPCG(2, 2))
	read := 0
	for range 50_000 {
		b := Put(nil, randomOp(rnd))
		for range rnd.IntN(3) {
			b[rnd.IntN(len(b))] = byte(rnd.Uint32N(256) >> rnd.IntN(8))
		}
		r := enc.Read(b)
		o := Get(r)
		if !r.Good() {
			if !reflect.DeepEqual(o, api.Op{}) {
				t.Fatalf("a reader of %v has failed, and gives %v", b, o)
			}
			continue
		}
		read++
		if size := len(b) - r.Left(); !Good(o) || !bytes.Equal(Put(nil, o), b[:size]) || !bytes.Equal(encoded(o), b[:size]) {
			t.Fatalf("%v is read as %v", b, o)
		}
	}
	if read < 10_000 {
		t.Errorf("only %d operations are read", read)
	}
}

// P3.2: a reader that has failed gives no operation, and operations that follow each other are read in turn.
func TestGetInTurn(t *testing.T) {
	var b []byte
	for _, o := range validOps() {
		b = Put(b, o)
	}
	r := enc.Read(b)
	for i, o := range validOps() {
		if !Same(Get(r), o) {
			t.Errorf("operation %d is not read", i)
		}
	}
	if !r.Done() {
		t.Error("not done")
	}
	checkNoOp(t, nil)
	r = enc.Read(b)
	r.Fail()
	if o := Get(r); !reflect.DeepEqual(o, api.Op{}) || r.Good() {
		t.Errorf("a failed reader gives %v", o)
	}
}

// P3.3: increasing by At, whatever the order was.
func TestSort(t *testing.T) {
	rnd := rand.New(rand.NewPCG(3, 3))
	var want []api.Op
	for i := range 100 {
		want = append(want, edit(func(o *api.Op) { o.At, o.Data[5] = at(int64(i/3+6), i%3+1), byte(i) }))
	}
	for range 50 {
		ops := append(slices.Clone(want), want[:rnd.IntN(100)]...)
		rnd.Shuffle(len(ops), func(i, j int) { ops[i], ops[j] = ops[j], ops[i] })
		if got := Sort(ops); !slices.EqualFunc(got, want, Same) {
			t.Fatalf("%d operations are sorted as %v", len(ops), got)
		}
	}
}

// P3.1: of several operations with the same At, the first one, valid or not.
func TestSortTakesTheFirst(t *testing.T) {
	var ops []api.Op
	for i := range 300 {
		ops = append(ops, api.Op{At: at(int64(i%7)-3, i%2), Kind: i})
	}
	got := Sort(ops)
	if len(got) != 14 {
		t.Fatalf("%d operations", len(got))
	}
	for i, o := range got {
		first := slices.IndexFunc(ops, func(x api.Op) bool { return x.At == o.At })
		if o.Kind != first || i > 0 && Cmp(got[i-1].At, o.At) != -1 {
			t.Errorf("operation %d is the one of place %d", i, o.Kind)
		}
	}
}

// P3.1: the edges: no operation, one, and the same one twice.
func TestSortFew(t *testing.T) {
	if len(Sort(nil)) != 0 || len(Sort([]api.Op{})) != 0 {
		t.Error("Sort of nothing")
	}
	for _, o := range append(validOps(), wrongOps()...) {
		for n := 1; n <= 3; n++ {
			if got := Sort(slices.Repeat([]api.Op{o}, n)); len(got) != 1 || !Same(got[0], o) {
				t.Errorf("Sort of %d times %v", n, o)
			}
		}
	}
}

// P3.4: Put gives new memory, and modifies neither its argument nor what lies beyond.
func TestPutGivesNewMemory(t *testing.T) {
	for _, o := range []api.Op{move(func(o *api.Op) {}), edit(func(o *api.Op) {}), {}} {
		memory := bytes.Repeat([]byte{7}, 300)
		first, second := Put(memory[:3], o), Put(memory[:3], o)
		want := bytes.Clone(second)
		first = first[:cap(first)]
		for i := range first {
			first[i] ^= 255
		}
		if !bytes.Equal(memory, bytes.Repeat([]byte{7}, 300)) {
			t.Error("the argument is modified")
		}
		clear(memory)
		if !bytes.Equal(second, want) || !bytes.HasPrefix(second, []byte{7, 7, 7}) {
			t.Error("the results share memory")
		}
	}
	o := edit(func(o *api.Op) {})
	if Put(nil, o); !Same(o, edit(func(o *api.Op) {})) {
		t.Error("the operation is modified")
	}
}

// P3.4: Get gives new memory.
func TestGetGivesNewMemory(t *testing.T) {
	b := Put(Put(nil, edit(func(o *api.Op) {})), edit(func(o *api.Op) {}))
	r := enc.Read(b)
	first, second := Get(r), Get(r)
	for i := range cap(first.Over) {
		first.Over[:cap(first.Over)][i] = at(77, 77)
	}
	clear(b)
	if !Same(second, edit(func(o *api.Op) {})) {
		t.Error("the results share memory")
	}
}

// P3.4: Sort leaves its list as it is, and shares no memory with it, and no two of its results do.
func TestSortGivesNewMemory(t *testing.T) {
	shared := append(make([]api.Stamp, 0, 10), at(1, 1), at(2, 1))
	ops := make([]api.Op, 0, 10)
	for i := range 4 {
		ops = append(ops, edit(func(o *api.Op) { o.At, o.Over = at(int64(9-i/2), 1), shared[:i%2:5] }))
	}
	before := slices.Clone(ops)
	got := Sort(ops)
	if !slices.EqualFunc(ops, before, Same) || !reflect.DeepEqual(ops[len(ops):cap(ops)], make([]api.Op, 6)) {
		t.Error("the argument is modified")
	}
	got = Sort([]api.Op{edit(func(o *api.Op) { o.Over = shared }), edit(func(o *api.Op) { o.At, o.Over = at(8, 1), shared })})
	for i := range cap(got[0].Over) {
		got[0].Over[:cap(got[0].Over)][i] = at(77, 77)
	}
	if !slices.Equal(shared, []api.Stamp{at(1, 1), at(2, 1)}) || !slices.Equal(got[1].Over, shared) {
		t.Error("the results share memory")
	}
	got = append(got, api.Op{})
	shared[0] = at(66, 66)
	if got[1].Over[0] != at(1, 1) {
		t.Error("the argument is retained")
	}
}
