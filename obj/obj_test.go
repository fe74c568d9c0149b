package obj

import (
	"bytes"
	"math"
	"math/rand/v2"
	"pollard/api"
	"pollard/enc"
	"pollard/sha"
	"pollard/stamp"
	"reflect"
	"slices"
	"strings"
	"testing"
)

func at(t int64, r int) api.Stamp {
	return api.Stamp{T: t, R: r}
}

func lastStamp() api.Stamp {
	return at(api.MaxTime, api.MaxReplica)
}

// wrongStamps are stamps that aren't valid, at the edges and far beyond.
func wrongStamps() []api.Stamp {
	return []api.Stamp{
		{}, at(0, 1), at(1, 0), at(-1, 1), at(1, -1), at(api.MaxTime+1, 1), at(1, api.MaxReplica+1),
		at(math.MinInt64, 1), at(math.MaxInt64, 1), at(1, math.MinInt), at(1, math.MaxInt),
	}
}

func wrongNames() []string {
	return []string{"", ".", "..", "/", "a/b", "\x00a", "a\n", strings.Repeat("n", api.MaxName+1)}
}

// id returns an ID that is greater for a greater number.
func id(n int) api.ID {
	return api.ID{0: byte(n >> 8), 1: byte(n), 31: 1}
}

func ids(numbers ...int) []api.ID {
	var out []api.ID
	for _, n := range numbers {
		out = append(out, id(n))
	}
	return out
}

func nums(b []byte, list ...int64) []byte {
	for _, n := range list {
		b = append(b, enc.Num(nil, n)...)
	}
	return b
}

func stampNums(b []byte, s api.Stamp) []byte {
	return nums(b, s.T, int64(s.R))
}

func text(b []byte, s string) []byte {
	return append(nums(b, int64(len(s))), s...)
}

// encodedDir returns the encoding of a directory, valid or not, by the chapter's section 'Format'.
func encodedDir(items []api.Item) []byte {
	b := nums([]byte{2}, int64(len(items)))
	for _, item := range items {
		b = append(text(stampNums(stampNums(b, item.Node), item.At), item.Name), item.Sub[:]...)
		b = nums(b, int64(len(item.Heads)))
		for _, head := range item.Heads {
			b = append(stampNums(b, head.At), head.Data[:]...)
		}
	}
	return b
}

// encodedOp returns the encoding of an operation, valid or not.
func encodedOp(b []byte, o api.Op) []byte {
	b = stampNums(stampNums(nums(b, int64(o.Kind)), o.At), o.Node)
	if o.Kind == api.Move {
		return text(stampNums(b, o.Parent), o.Name)
	}
	b = nums(append(b, o.Data[:]...), int64(len(o.Over)))
	for _, s := range o.Over {
		b = stampNums(b, s)
	}
	return b
}

// encodedChange returns the encoding of a commit, valid or not.
func encodedChange(c api.Change) []byte {
	b := nums([]byte{3}, int64(len(c.Parents)))
	for _, id := range c.Parents {
		b = append(b, id[:]...)
	}
	b = nums(b, c.Time, int64(c.R), int64(len(c.Ops)))
	for _, o := range c.Ops {
		b = encodedOp(b, o)
	}
	return text(append(b, c.Tree[:]...), c.Msg)
}

// encodedLabel returns the encoding of a tag, valid or not.
func encodedLabel(l api.Label) []byte {
	return text(text(append([]byte{4}, l.Target[:]...), l.Name), l.Msg)
}

// item is a valid item, changed.
func item(change func(item *api.Item)) api.Item {
	it := api.Item{Node: at(5, 3), At: at(6, 2), Name: "name", Sub: id(9), Heads: []api.Head{{At: at(5, 4), Data: id(8)}, {At: at(7, 1), Data: id(7)}}}
	change(&it)
	return it
}

func oneItem(change func(item *api.Item)) []api.Item {
	return []api.Item{item(change)}
}

func plainItem(node api.Stamp) api.Item {
	return api.Item{Node: node, At: node, Name: "n"}
}

// manyItems are n items in order.
func manyItems(n int) []api.Item {
	var out []api.Item
	for i := range n {
		out = append(out, plainItem(at(int64(i/2+1), i%2+1)))
	}
	return out
}

// manyHeads are n heads in order, above {5, 3}.
func manyHeads(n int) []api.Head {
	var out []api.Head
	for i := range n {
		out = append(out, api.Head{At: at(int64(i/2+6), i%2+1), Data: id(n - i)})
	}
	return out
}

// validDirs are directories that are just valid.
func validDirs() [][]api.Item {
	large := manyItems(1000)
	large[499].Sub = id(1)
	large[500].Heads = []api.Head{{At: lastStamp(), Data: id(2)}}
	return [][]api.Item{
		nil,
		{},
		{{Node: at(1, 1), At: at(1, 1), Name: "a"}},
		oneItem(func(*api.Item) {}),
		oneItem(func(it *api.Item) { it.Sub = api.ID{} }),
		oneItem(func(it *api.Item) { it.Sub = api.ID(bytes.Repeat([]byte{255}, 32)) }),
		oneItem(func(it *api.Item) { it.At = it.Node }),
		oneItem(func(it *api.Item) { it.At = lastStamp() }),
		oneItem(func(it *api.Item) { it.At = at(5, 4) }),
		oneItem(func(it *api.Item) { it.Node, it.At, it.Heads = lastStamp(), lastStamp(), nil }),
		oneItem(func(it *api.Item) { it.Name = strings.Repeat("\xff", api.MaxName) }),
		oneItem(func(it *api.Item) { it.Heads = []api.Head{} }),
		oneItem(func(it *api.Item) { it.Heads = it.Heads[:1] }),
		oneItem(func(it *api.Item) { it.Heads[1] = api.Head{At: lastStamp(), Data: it.Heads[0].Data} }),
		oneItem(func(it *api.Item) { it.Heads[1].At = at(5, 5) }),
		oneItem(func(it *api.Item) { it.Heads = manyHeads(1000) }),
		{plainItem(at(1, 1)), plainItem(at(1, 2)), plainItem(at(2, 1)), plainItem(at(3, 65536)), plainItem(at(4, 1)), plainItem(lastStamp())},
		{plainItem(at(1, 1)), item(func(*api.Item) {}), plainItem(at(5, 4))},
		large,
	}
}

// wrongItems are items that aren't valid, each for a single reason.
func wrongItems() []api.Item {
	out := []api.Item{
		{},
		item(func(it *api.Item) { it.At = at(5, 2) }),
		item(func(it *api.Item) { it.At = at(4, 3) }),
		item(func(it *api.Item) { it.Heads = manyHeads(1001) }),
		item(func(it *api.Item) { it.Heads[0].Data = api.ID{} }),
		item(func(it *api.Item) { it.Heads[1].Data = api.ID{} }),
		item(func(it *api.Item) { it.Heads[0].At = it.Node }),
		item(func(it *api.Item) { it.Heads[0].At = at(5, 2) }),
		item(func(it *api.Item) { it.Heads[0].At = at(4, 4) }),
		item(func(it *api.Item) { it.Heads[0], it.Heads[1] = it.Heads[1], it.Heads[0] }),
		item(func(it *api.Item) { it.Heads[1].At = it.Heads[0].At }),
		item(func(it *api.Item) { it.Heads[1] = it.Heads[0] }),
		item(func(it *api.Item) { it.Heads = append(it.Heads, it.Heads[1]) }),
		item(func(it *api.Item) { it.Heads[1].At = at(6, 0) }),
		item(func(it *api.Item) { it.Heads[1].At = at(6, api.MaxReplica+1) }),
		item(func(it *api.Item) { it.Heads[1].At = at(api.MaxTime+1, 1) }),
	}
	for _, s := range wrongStamps() {
		out = append(out, item(func(it *api.Item) { it.Node = s }), item(func(it *api.Item) { it.At = s }),
			item(func(it *api.Item) { it.Heads = []api.Head{{At: s, Data: id(1)}} }))
	}
	out = append(out, item(func(it *api.Item) { it.At = at(7, 0) }), item(func(it *api.Item) { it.At = at(7, api.MaxReplica+1) }),
		item(func(it *api.Item) { it.Node = at(5, 0) }))
	for _, s := range wrongNames() {
		out = append(out, item(func(it *api.Item) { it.Name = s }))
	}
	return out
}

// wrongDirs are directories that aren't valid.
func wrongDirs() [][]api.Item {
	a, b, c := plainItem(at(1, 1)), plainItem(at(1, 2)), plainItem(at(2, 1))
	out := [][]api.Item{{b, a}, {a, a}, {c, a}, {c, b}, {a, c, b}, {a, b, b}, {b, a, c}, {a, b, c, c}, manyItems(1001)}
	for _, it := range wrongItems() {
		out = append(out, []api.Item{it}, []api.Item{a, it}, []api.Item{it, plainItem(lastStamp())})
	}
	return out
}

// put is a Move in commit's bounds; edited an Edit.
func put(t int64) api.Op {
	return api.Op{Kind: api.Move, At: at(t, 3), Node: at(1, 1), Name: "a"}
}

func edited(t int64) api.Op {
	return api.Op{Kind: api.Edit, At: at(t, 3), Node: at(1, 1), Data: id(int(t)), Over: []api.Stamp{at(1, 1), at(1, 2)}}
}

func manyOps(n int) []api.Op {
	var out []api.Op
	for i := range n {
		out = append(out, put(int64(i+2)))
	}
	return out
}

// commit is a valid commit, changed.
func commit(change func(c *api.Change)) api.Change {
	c := api.Change{Parents: ids(4), Time: 100, R: 3, Ops: []api.Op{put(7), edited(8), edited(100)}, Tree: id(5), Msg: "message"}
	change(&c)
	return c
}

// validChanges are commits that are just valid.
func validChanges() []api.Change {
	return []api.Change{
		{Time: 1, R: 1, Tree: id(5)},
		commit(func(*api.Change) {}),
		commit(func(c *api.Change) { c.Parents = nil }),
		commit(func(c *api.Change) { c.Parents = []api.ID{} }),
		commit(func(c *api.Change) { c.Parents, c.Ops = ids(4, 6), nil }),
		commit(func(c *api.Change) { c.Parents, c.Ops = ids(4, 6), []api.Op{} }),
		commit(func(c *api.Change) { c.Parents, c.Ops = []api.ID{{31: 1}, {31: 2}}, nil }),
		commit(func(c *api.Change) { c.Parents = []api.ID{{31: 1}} }),
		commit(func(c *api.Change) { c.Parents = []api.ID{c.Tree} }),
		commit(func(c *api.Change) { c.Time = api.MaxTime }),
		commit(func(c *api.Change) { c.Time, c.Ops = api.MaxTime, []api.Op{put(api.MaxTime)} }),
		commit(func(c *api.Change) { c.R, c.Ops = api.MaxReplica, nil }),
		commit(func(c *api.Change) { c.R, c.Ops = 1, nil }),
		commit(func(c *api.Change) { c.Ops = nil }),
		commit(func(c *api.Change) { c.Ops = manyOps(api.MaxOps) }),
		commit(func(c *api.Change) { c.Ops = []api.Op{put(99), edited(100)} }),
		commit(func(c *api.Change) { c.Tree = api.ID{31: 128} }),
		commit(func(c *api.Change) { c.Msg = "" }),
		commit(func(c *api.Change) { c.Msg = "\x00\n/\xff.." }),
		commit(func(c *api.Change) { c.Msg = strings.Repeat("\xff", api.MaxMsg) }),
	}
}

// wrongOps are operations that can't be in a commit of replica 3 at time 100.
func wrongOps() []api.Op {
	foreign, small, data, far, nameless := put(50), put(50), edited(50), edited(50), put(50)
	foreign.At.R = 4
	small.At.R = 2
	data.Data = api.ID{}
	far.Over = []api.Stamp{at(51, 1)}
	nameless.Name = ""
	unknown, late := put(50), put(50)
	unknown.Kind = 3
	late.Node = at(51, 1)
	return []api.Op{{}, foreign, small, data, far, nameless, unknown, late, put(101), edited(101), put(api.MaxTime)}
}

// wrongChanges are commits that aren't valid, each for a single reason.
func wrongChanges() []api.Change {
	out := []api.Change{
		{},
		commit(func(c *api.Change) { c.Parents = ids(4, 6) }),
		commit(func(c *api.Change) { c.Parents, c.Ops = ids(4, 6), []api.Op{put(7)} }),
		commit(func(c *api.Change) { c.Parents, c.Ops = ids(6, 4), nil }),
		commit(func(c *api.Change) { c.Parents, c.Ops = ids(4, 4), nil }),
		commit(func(c *api.Change) { c.Parents, c.Ops = []api.ID{{31: 2}, {31: 1}}, nil }),
		commit(func(c *api.Change) { c.Parents, c.Ops = ids(4, 5, 6), nil }),
		commit(func(c *api.Change) { c.Parents = ids(4, 5, 6) }),
		commit(func(c *api.Change) { c.Parents = []api.ID{{}} }),
		commit(func(c *api.Change) { c.Parents, c.Ops = []api.ID{{}, id(1)}, nil }),
		commit(func(c *api.Change) { c.Parents, c.Ops = []api.ID{id(1), {}}, nil }),
		commit(func(c *api.Change) { c.Tree = api.ID{} }),
		commit(func(c *api.Change) { c.Msg = strings.Repeat("m", api.MaxMsg+1) }),
		commit(func(c *api.Change) { c.Time, c.Ops = api.MaxTime+1, nil }),
		commit(func(c *api.Change) { c.Time, c.Ops = 0, nil }),
		commit(func(c *api.Change) { c.Time = 99 }),
		commit(func(c *api.Change) { c.R, c.Ops = 0, nil }),
		commit(func(c *api.Change) { c.R, c.Ops = api.MaxReplica+1, nil }),
		commit(func(c *api.Change) { c.R = 4 }),
		commit(func(c *api.Change) { c.Ops = manyOps(api.MaxOps + 1) }),
		commit(func(c *api.Change) { c.Ops = []api.Op{put(8), put(7)} }),
		commit(func(c *api.Change) { c.Ops = []api.Op{put(8), put(8)} }),
		commit(func(c *api.Change) { c.Ops = []api.Op{put(8), edited(8)} }),
		commit(func(c *api.Change) { c.Ops = []api.Op{put(8), put(9), put(9), put(10)} }),
		commit(func(c *api.Change) { c.Ops = []api.Op{put(8), put(9), edited(7)} }),
	}
	for _, s := range wrongStamps() {
		out = append(out, commit(func(c *api.Change) { c.Time, c.R, c.Ops = s.T, s.R, nil }))
	}
	for _, o := range wrongOps() {
		out = append(out, commit(func(c *api.Change) { c.Ops = []api.Op{o} }), commit(func(c *api.Change) { c.Ops = []api.Op{put(2), o} }))
	}
	return out
}

func validLabels() []api.Label {
	return []api.Label{
		{Target: id(1), Name: "a"},
		{Target: id(1), Name: "v1.0", Msg: "message"},
		{Target: api.ID{31: 1}, Name: "...", Msg: "\x00\n/"},
		{Target: api.ID{0: 255}, Name: strings.Repeat("\xff", api.MaxName), Msg: strings.Repeat("\xfe", api.MaxMsg)},
	}
}

func wrongLabels() []api.Label {
	out := []api.Label{{}, {Name: "a"}, {Name: "a", Msg: "m"}, {Target: id(1), Name: "a", Msg: strings.Repeat("m", api.MaxMsg+1)}}
	for _, s := range wrongNames() {
		out = append(out, api.Label{Target: id(1), Name: s})
	}
	return out
}

func validBlobs() [][]byte {
	return [][]byte{nil, {}, {0}, {1}, {2, 0}, []byte("ab"), bytes.Repeat([]byte{255}, api.MaxData-1), bytes.Repeat([]byte{3}, api.MaxData)}
}

// checkKinds checks that bytes are an object of one kind, and of no other one.
func checkKinds(t *testing.T, b []byte, kind int) {
	t.Helper()
	if got := Kind(b); got != kind {
		t.Errorf("Kind is %d, not %d, of %.80v", got, kind, b)
	}
	if x, err := Blob(b); (err == api.OK) != (kind == api.Blob) || err != api.OK && (err != api.ErrForm || x != nil) {
		t.Errorf("Blob of kind %d returns %v, %d", kind, x, err)
	}
	if x, err := Dir(b); (err == api.OK) != (kind == api.Dir) || err != api.OK && (err != api.ErrForm || x != nil) {
		t.Errorf("Dir of kind %d returns %v, %d", kind, x, err)
	}
	if x, err := Change(b); (err == api.OK) != (kind == api.Commit) || err != api.OK && (err != api.ErrForm || !reflect.DeepEqual(x, api.Change{})) {
		t.Errorf("Change of kind %d returns %v, %d", kind, x, err)
	}
	if x, err := Label(b); (err == api.OK) != (kind == api.Tag) || err != api.OK && (err != api.ErrForm || x != api.Label{}) {
		t.Errorf("Label of kind %d returns %v, %d", kind, x, err)
	}
	if kind == 0 && len(Links(b)) != 0 {
		t.Errorf("what is no object refers to %v", Links(b))
	}
}

func sameHeads(a, b api.Head) bool {
	return a == b
}

func sameItems(a, b api.Item) bool {
	return a.Node == b.Node && a.At == b.At && a.Name == b.Name && a.Sub == b.Sub && slices.EqualFunc(a.Heads, b.Heads, sameHeads)
}

func sameChanges(a, b api.Change) bool {
	return slices.Equal(a.Parents, b.Parents) && a.Time == b.Time && a.R == b.R && slices.EqualFunc(a.Ops, b.Ops, stamp.Same) && a.Tree == b.Tree && a.Msg == b.Msg
}

// checkPut checks what a Put function gives: these bytes, of this kind, or an error and no bytes.
func checkPut(t *testing.T, got []byte, err api.Errno, want []byte) {
	t.Helper()
	if err != api.OK || !bytes.Equal(got, want) {
		t.Errorf("%.80v and %d instead of %.80v", got, err, want)
	}
	checkKinds(t, want, int(want[0]))
}

func checkNoPut(t *testing.T, got []byte, err, want api.Errno) {
	t.Helper()
	if err != want || len(got) != 0 {
		t.Errorf("%.80v and %d instead of %d", got, err, want)
	}
}

// P4.1 and P4.2: a blob of up to MaxData bytes, whatever they are.
func TestBlob(t *testing.T) {
	if b, err := PutBlob([]byte("ab")); err != api.OK || !bytes.Equal(b, []byte{1, 97, 98}) {
		t.Errorf("the chapter's example is %v, %d", b, err)
	}
	for _, data := range validBlobs() {
		b, err := PutBlob(data)
		checkPut(t, b, err, append([]byte{1}, data...))
		if got, err := Blob(b); err != api.OK || !bytes.Equal(got, data) {
			t.Errorf("a blob of %d bytes is read as %d bytes, %d", len(data), len(got), err)
		}
		if len(Links(b)) != 0 {
			t.Errorf("a blob refers to %v", Links(b))
		}
	}
	for _, size := range []int{api.MaxData + 1, api.MaxData + 2, 100_000} {
		b, err := PutBlob(make([]byte, size))
		checkNoPut(t, b, err, api.ErrLong)
		checkKinds(t, append([]byte{1}, make([]byte, size)...), 0)
	}
}

// P4.1 and P4.2: directories, at the edges of what is valid.
func TestDir(t *testing.T) {
	for i, items := range validDirs() {
		b, err := PutDir(items)
		checkPut(t, b, err, encodedDir(items))
		if got, err := Dir(b); err != api.OK || !slices.EqualFunc(got, items, sameItems) {
			t.Errorf("directory %d is read as %v, %d", i, got, err)
		}
	}
}

// P4.1: the bytes of a directory, one by one.
func TestDirBytes(t *testing.T) {
	if b, err := PutDir(nil); err != api.OK || !bytes.Equal(b, []byte{2, 0}) {
		t.Errorf("no items are %v, %d", b, err)
	}
	sub, data := api.ID(bytes.Repeat([]byte{9}, 32)), api.ID(bytes.Repeat([]byte{8}, 32))
	items := []api.Item{
		{Node: at(1, 2), At: at(300, 4), Name: "ab", Sub: sub, Heads: []api.Head{{At: at(5, 6), Data: data}}},
		{Node: at(7, 8), At: at(9, 10), Name: "c"},
	}
	want := append([]byte{2, 2, 1, 2, 172, 2, 4, 2, 'a', 'b'}, sub[:]...)
	want = append(append(want, 1, 5, 6), data[:]...)
	want = append(append(want, 7, 8, 9, 10, 1, 'c'), make([]byte, 33)...)
	if b, err := PutDir(items); err != api.OK || !bytes.Equal(b, want) {
		t.Errorf("%v, %d instead of %v", b, err, want)
	}
}

// P4.1 and P4.2: what is no valid directory is neither written nor read.
func TestWrongDir(t *testing.T) {
	for _, items := range wrongDirs() {
		b, err := PutDir(items)
		checkNoPut(t, b, err, api.ErrArg)
		checkKinds(t, encodedDir(items), 0)
	}
}

// P4.1 and P4.2: commits, at the edges of what is valid.
func TestChange(t *testing.T) {
	for i, c := range validChanges() {
		b, err := PutChange(c)
		checkPut(t, b, err, encodedChange(c))
		if got, err := Change(b); err != api.OK || !sameChanges(got, c) {
			t.Errorf("commit %d is read as %v, %d", i, got, err)
		}
	}
}

// P4.1: the bytes of a commit, one by one.
func TestChangeBytes(t *testing.T) {
	tree, data := api.ID(bytes.Repeat([]byte{9}, 32)), api.ID(bytes.Repeat([]byte{8}, 32))
	want := append(append([]byte{3, 0, 1, 1, 0}, tree[:]...), 0)
	if b, err := PutChange(api.Change{Time: 1, R: 1, Tree: tree}); err != api.OK || !bytes.Equal(b, want) {
		t.Errorf("the chapter's example is %v, %d", b, err)
	}
	c := api.Change{Parents: []api.ID{tree}, Time: 300, R: 7, Tree: tree, Msg: "ab", Ops: []api.Op{
		{Kind: api.Move, At: at(4, 7), Node: at(3, 2), Name: "c"},
		{Kind: api.Edit, At: at(5, 7), Node: at(3, 2), Data: data, Over: []api.Stamp{at(4, 6)}},
	}}
	want = append(append([]byte{3, 1}, tree[:]...), 172, 2, 7, 2, 1, 4, 7, 3, 2, 0, 0, 1, 'c', 2, 5, 7, 3, 2)
	want = append(append(want, data[:]...), 1, 4, 6)
	want = append(append(want, tree[:]...), 2, 'a', 'b')
	if b, err := PutChange(c); err != api.OK || !bytes.Equal(b, want) {
		t.Errorf("%v, %d instead of %v", b, err, want)
	}
}

// P4.1 and P4.2: what is no valid commit is neither written nor read.
func TestWrongChange(t *testing.T) {
	for _, c := range wrongChanges() {
		b, err := PutChange(c)
		checkNoPut(t, b, err, api.ErrArg)
		checkKinds(t, encodedChange(c), 0)
	}
	wrongFields := edited(50)
	wrongFields.Name = "a"
	b, err := PutChange(commit(func(c *api.Change) { c.Ops = []api.Op{wrongFields} }))
	checkNoPut(t, b, err, api.ErrArg)
}

// P4.1 and P4.2: tags, at the edges of what is valid.
func TestLabel(t *testing.T) {
	target := api.ID(bytes.Repeat([]byte{9}, 32))
	want := append(append([]byte{4}, target[:]...), 2, 'a', 'b', 1, 'c')
	if b, err := PutLabel(api.Label{Target: target, Name: "ab", Msg: "c"}); err != api.OK || !bytes.Equal(b, want) {
		t.Errorf("%v, %d instead of %v", b, err, want)
	}
	for i, l := range validLabels() {
		b, err := PutLabel(l)
		checkPut(t, b, err, encodedLabel(l))
		if got, err := Label(b); err != api.OK || got != l {
			t.Errorf("tag %d is read as %v, %d", i, got, err)
		}
	}
	for _, l := range wrongLabels() {
		b, err := PutLabel(l)
		checkNoPut(t, b, err, api.ErrArg)
		checkKinds(t, encodedLabel(l), 0)
	}
}

// samples are encodings of small valid objects of all kinds.
func samples() [][]byte {
	return [][]byte{
		{1, 'a', 'b'},
		encodedDir(nil),
		encodedDir(oneItem(func(*api.Item) {})),
		encodedDir([]api.Item{plainItem(at(1, 1)), plainItem(at(300, 2))}),
		encodedChange(commit(func(*api.Change) {})),
		encodedChange(commit(func(c *api.Change) { c.Parents, c.Ops, c.Time = ids(4, 6), nil, 300 })),
		encodedLabel(api.Label{Target: id(1), Name: "name", Msg: "message"}),
	}
}

// P4.2: with less or more bytes it is no object, unless it is a blob.
func TestOtherLengths(t *testing.T) {
	checkKinds(t, nil, 0)
	checkKinds(t, []byte{}, 0)
	for _, b := range samples()[1:] {
		for size := range b {
			checkKinds(t, b[:size], 0)
		}
		for value := range 256 {
			checkKinds(t, append(bytes.Clone(b), byte(value)), 0)
		}
		checkKinds(t, append(bytes.Clone(b), b...), 0)
	}
}

// P4.2: of any object, the first byte alone tells the kind; each other one makes it another object, or none.
func TestFirstByte(t *testing.T) {
	for _, b := range samples() {
		for value := range 256 {
			other := bytes.Clone(b)
			other[0] = byte(value)
			if kind := Kind(other); kind != 0 && kind != value {
				t.Errorf("Kind is %d of %v", kind, other)
			}
			if value == 0 || value > api.Tag {
				checkKinds(t, other, 0)
				checkKinds(t, other[:1], 0)
			}
			if value == api.Blob {
				checkKinds(t, other, api.Blob)
			}
		}
	}
	for _, b := range samples()[1:] {
		checkKinds(t, append([]byte{b[0] | 128, 0}, b[1:]...), 0)
	}
}

// rewritten returns the encoding of the object that is read from bytes, and its kind; none, if there is no object.
func rewritten(b []byte) ([]byte, int) {
	if x, err := Blob(b); err == api.OK {
		return append([]byte{1}, x...), api.Blob
	}
	if x, err := Dir(b); err == api.OK {
		return encodedDir(x), api.Dir
	}
	if x, err := Change(b); err == api.OK {
		return encodedChange(x), api.Commit
	}
	if x, err := Label(b); err == api.OK {
		return encodedLabel(x), api.Tag
	}
	return nil, 0
}

// P4.2: whatever the bytes are, an object that is read has exactly these, and is of one kind.
func TestAnyBytes(t *testing.T) {
	rnd := rand.New(rand.NewPCG(1, 1))
	list := samples()
	counts := make([]int, api.Tag+1)
	for range 30_000 {
		b := bytes.Clone(list[rnd.IntN(len(list))])
		for range rnd.IntN(3) {
			b[rnd.IntN(len(b))] = byte(rnd.Uint32N(256) >> rnd.IntN(8))
		}
		again, kind := rewritten(b)
		if kind != 0 && !bytes.Equal(again, b) {
			t.Fatalf("%v is read as %v", b, again)
		}
		checkKinds(t, b, kind)
		counts[kind]++
	}
	if slices.Min(counts) < 1000 {
		t.Errorf("of the kinds there are %v", counts)
	}
}

// P4.2: a number that isn't encoded in as few bytes as possible is none.
func TestLongNumbers(t *testing.T) {
	b, place := encodedDir([]api.Item{plainItem(at(1, 1))}), []int{1, 2, 3, 4, 5, 6, 40}
	for _, i := range place {
		checkKinds(t, append(append(bytes.Clone(b[:i]), b[i]|128, 0), b[i+1:]...), 0)
	}
	b, place = encodedChange(api.Change{Time: 1, R: 1, Tree: id(5)}), []int{1, 2, 3, 4, 37}
	for _, i := range place {
		checkKinds(t, append(append(bytes.Clone(b[:i]), b[i]|128, 0), b[i+1:]...), 0)
	}
	b, place = encodedLabel(api.Label{Target: id(5), Name: "a"}), []int{33, 35}
	for _, i := range place {
		checkKinds(t, append(append(bytes.Clone(b[:i]), b[i]|128, 0), b[i+1:]...), 0)
	}
}

// P4.1: numbers of elements that aren't there end nothing but the reading.
func TestCountsBeyondTheEnd(t *testing.T) {
	for _, n := range []int64{1, 2, 64, 65, 1000, 1001, 1 << 40, 1 << 62} {
		for kind := range byte(api.Tag + 1) {
			if kind != api.Blob {
				checkKinds(t, nums([]byte{kind}, n), 0)
				checkKinds(t, nums([]byte{kind}, 0, 1, 1, n), 0)
			}
		}
	}
}

func checkLinks(t *testing.T, b []byte, want []api.ID) {
	t.Helper()
	if got := Links(b); !slices.Equal(got, want) {
		t.Errorf("Links are %v, not %v", got, want)
	}
}

// P4.1: the links of a directory: Subs and Datas, in order, each once.
func TestLinksOfDir(t *testing.T) {
	checkLinks(t, encodedDir(nil), nil)
	checkLinks(t, encodedDir([]api.Item{plainItem(at(1, 1))}), nil)
	checkLinks(t, encodedDir(oneItem(func(*api.Item) {})), ids(7, 8, 9))
	checkLinks(t, encodedDir(oneItem(func(it *api.Item) { it.Sub = api.ID{} })), ids(7, 8))
	checkLinks(t, encodedDir(oneItem(func(it *api.Item) { it.Heads = nil })), ids(9))
	first, second, third := plainItem(at(1, 1)), item(func(*api.Item) {}), plainItem(at(9, 9))
	first.Sub, third.Sub = id(300), id(8)
	third.Heads = []api.Head{{At: at(10, 1), Data: id(9)}, {At: at(10, 2), Data: id(1)}, {At: at(10, 3), Data: id(300)}}
	checkLinks(t, encodedDir([]api.Item{first, second, third}), ids(1, 7, 8, 9, 300))
}

// P4.1: the links of a commit: parents, Tree, and Datas of Edits.
func TestLinksOfChange(t *testing.T) {
	checkLinks(t, encodedChange(api.Change{Time: 1, R: 1, Tree: id(5)}), ids(5))
	checkLinks(t, encodedChange(commit(func(*api.Change) {})), ids(4, 5, 8, 100))
	checkLinks(t, encodedChange(commit(func(c *api.Change) { c.Ops = []api.Op{put(9)} })), ids(4, 5))
	checkLinks(t, encodedChange(commit(func(c *api.Change) { c.Parents, c.Ops = ids(3, 900), nil })), ids(3, 5, 900))
	checkLinks(t, encodedChange(commit(func(c *api.Change) { c.Parents, c.Tree = ids(8), id(8) })), ids(8, 100))
}

// P4.1: the link of a tag, and none of a blob or of what is no object.
func TestLinksOfOthers(t *testing.T) {
	checkLinks(t, encodedLabel(api.Label{Target: id(5), Name: "a"}), ids(5))
	checkLinks(t, append([]byte{1}, encodedLabel(api.Label{Target: id(5), Name: "a"})...), nil)
	checkLinks(t, nil, nil)
	for _, b := range samples()[1:] {
		checkLinks(t, b[:len(b)-1], nil)
		checkLinks(t, append(bytes.Clone(b), 0), nil)
	}
	for _, l := range wrongLabels() {
		checkLinks(t, encodedLabel(l), nil)
	}
	for _, c := range wrongChanges() {
		checkLinks(t, encodedChange(c), nil)
	}
}

// P4.1: the order of links is that of layer 1, in all 32 bytes.
func TestLinksOrder(t *testing.T) {
	rnd := rand.New(rand.NewPCG(2, 2))
	it := item(func(it *api.Item) { it.Heads = manyHeads(200) })
	for i := range it.Heads {
		it.Heads[i].Data[rnd.IntN(32)] = byte(1 + rnd.IntN(255))
	}
	links := Links(encodedDir([]api.Item{it}))
	for i := range links[1:] {
		if sha.Cmp(links[i], links[i+1]) != -1 {
			t.Errorf("%v is ahead of %v", links[i], links[i+1])
		}
	}
	for _, head := range it.Heads {
		if !slices.Contains(links, head.Data) {
			t.Errorf("%v is missing", head.Data)
		}
	}
}

// P4.3: what is written is new memory, and the arguments remain as they are.
func TestPutGivesNewMemory(t *testing.T) {
	data := []byte("abcdef")
	items, c := oneItem(func(*api.Item) {}), commit(func(*api.Change) {})
	for i, write := range []func() ([]byte, api.Errno){
		func() ([]byte, api.Errno) { return PutBlob(data[:3]) },
		func() ([]byte, api.Errno) { return PutDir(items) },
		func() ([]byte, api.Errno) { return PutChange(c) },
		func() ([]byte, api.Errno) { return PutLabel(validLabels()[1]) },
	} {
		first, _ := write()
		second, _ := write()
		want := bytes.Clone(second)
		clear(first[:cap(first)])
		if third, _ := write(); !bytes.Equal(second, want) || !bytes.Equal(third, want) {
			t.Errorf("writer %d: the results share memory", i)
		}
	}
	blob, _ := PutBlob(data[:3])
	if string(data) != "abcdef" || !slices.EqualFunc(items, oneItem(func(*api.Item) {}), sameItems) || !sameChanges(c, commit(func(*api.Change) {})) {
		t.Error("an argument is modified")
	}
	if clear(data); string(blob) != "\x01abc" {
		t.Error("an argument is retained")
	}
}

// P4.3: what is read is new memory, and the bytes remain as they are.
func TestReadGivesNewMemory(t *testing.T) {
	for _, b := range samples() {
		before := bytes.Clone(b)
		blob, _ := Blob(b)
		items, _ := Dir(b)
		c, _ := Change(b)
		links := Links(b)
		clear(blob[:cap(blob)])
		clear(c.Parents[:cap(c.Parents)])
		clear(c.Ops[:cap(c.Ops)])
		for _, it := range items {
			clear(it.Heads[:cap(it.Heads)])
		}
		clear(items[:cap(items)])
		clear(links[:cap(links)])
		again, _ := rewritten(b)
		if !bytes.Equal(b, before) || !bytes.Equal(again, before) {
			t.Errorf("%v is modified", before)
		}
	}
}

// P4.3: no two lists of one result share memory, their spare capacity included, and none hangs on the bytes.
func TestReadListsAreApart(t *testing.T) {
	two := []api.Item{item(func(*api.Item) {}), item(func(it *api.Item) { it.Node = at(5, 4); it.Heads = manyHeads(3) })}
	b := encodedDir(two)
	items, err := Dir(b)
	if clear(b); err != api.OK {
		t.Fatal(err)
	}
	clear(items[0].Heads[:cap(items[0].Heads)])
	if !sameItems(items[1], two[1]) {
		t.Error("the items share memory")
	}
	b = encodedChange(commit(func(*api.Change) {}))
	c, err := Change(b)
	if clear(b); err != api.OK {
		t.Fatal(err)
	}
	clear(c.Ops[1].Over[:cap(c.Ops[1].Over)])
	clear(c.Parents[:cap(c.Parents)])
	if !stamp.Same(c.Ops[0], put(7)) || !stamp.Same(c.Ops[2], edited(100)) || c.Tree != id(5) || c.Msg != "message" {
		t.Error("the lists of a commit share memory")
	}
	b = []byte{1, 'a', 'b'}
	blob, _ := Blob(b)
	if clear(b); string(blob) != "ab" {
		t.Error("a blob shares memory with its encoding")
	}
}
