package pack

import (
	"bytes"
	"math/rand/v2"
	"slices"
	"strconv"
	"strings"
	"testing"

	"pollard/api"
	"pollard/delta"
	"pollard/enc"
	"pollard/sha"
)

// raw is bytes that stand in a pack as they are.
type raw []byte

// build puts bytes together: numbers, texts and IDs as layer 2 encodes them.
func build(parts ...any) raw {
	var b []byte
	for _, part := range parts {
		switch x := part.(type) {
		case int:
			b = append(b, enc.Num(nil, int64(x))...)
		case string:
			b = append(b, enc.Text(nil, x)...)
		case api.ID:
			b = append(b, x[:]...)
		case raw:
			b = append(b, x...)
		}
	}
	return b
}

// sealed returns bytes and their sum.
func sealed(parts ...any) []byte {
	b := build(parts...)
	return enc.Four(b, enc.Sum(b))
}

var start = raw("PLRD")

// packOf returns a pack of some entries.
func packOf(entries ...raw) []byte {
	parts := []any{start, len(entries)}
	for _, e := range entries {
		parts = append(parts, e)
	}
	return sealed(parts...)
}

// text returns an entry of the first kind.
func text(s string) raw {
	return build(0, s)
}

// extended returns a delta that adds some bytes to a base.
func extended(base, more string) string {
	return string(build(len(base)+len(more), 2*len(base)+1, 0, 2*len(more), raw(more)))
}

func idOf(s string) api.ID {
	return sha.Sum([]byte(s))
}

// idsOf returns the IDs of some texts in increasing order, each once.
func idsOf(texts ...string) []api.ID {
	var ids []api.ID
	for _, s := range texts {
		ids = append(ids, idOf(s))
	}
	slices.SortFunc(ids, sha.Cmp)
	return slices.Compact(ids)
}

// haveOf returns what has some texts.
func haveOf(texts ...string) func(id api.ID) ([]byte, bool) {
	return func(id api.ID) ([]byte, bool) {
		for _, s := range texts {
			if idOf(s) == id {
				return []byte(s), true
			}
		}
		return nil, false
	}
}

// expect fails the test unless a pack has exactly these texts.
func expect(t *testing.T, p *Pack, texts ...string) {
	t.Helper()
	if got := p.IDs(); !slices.Equal(got, idsOf(texts...)) {
		t.Fatalf("the pack has %v", got)
	}
	for _, s := range texts {
		if b, ok := p.Get(idOf(s)); !ok || string(b) != s {
			t.Fatalf("Get of %.50q answers %.50q, %v", s, b, ok)
		}
	}
	for _, id := range []api.ID{{}, idOf("not in any pack")} {
		if b, ok := p.Get(id); ok || b != nil {
			t.Fatalf("Get of an ID that is not in the pack answers %q, %v", b, ok)
		}
	}
}

// reads fails the test unless a pack is read as exactly these texts.
func reads(t *testing.T, b []byte, have func(id api.ID) ([]byte, bool), texts ...string) *Pack {
	t.Helper()
	p, err := Read(b, have)
	if err != api.OK {
		t.Fatalf("Read answers %d", err)
	}
	expect(t, p, texts...)
	return p
}

// fails fails the test unless Read answers an error, and no pack beside it.
func fails(t *testing.T, b []byte, have func(id api.ID) ([]byte, bool), want api.Errno) {
	t.Helper()
	p, err := Read(b, have)
	if err != want || p != nil {
		t.Fatalf("Read of %d bytes answers %v, %d, not %d", len(b), p, err, want)
	}
}

// P8.1: packs without deltas.
func TestReadTexts(t *testing.T) {
	reads(t, packOf(), nil)
	reads(t, packOf(text("")), nil, "")
	reads(t, packOf(text("a"), text(""), text("\x00\xff")), nil, "a", "", "\x00\xff")
	long := strings.Repeat("x", 1<<20)
	p := reads(t, packOf(text(long), text("b")), haveOf("a"), long, "b")
	if p.Outside() != nil {
		t.Errorf("there is something outside: %v", p.Outside())
	}
}

// P8.1: as many entries as a pack can have, and one more.
func TestReadManyEntries(t *testing.T) {
	var entries []raw
	var texts []string
	for i := range 65536 {
		texts = append(texts, strconv.Itoa(i))
		entries = append(entries, text(texts[i]))
	}
	p, err := Read(packOf(entries[:65535]...), nil)
	if err != api.OK || !slices.Equal(p.IDs(), idsOf(texts[:65535]...)) {
		t.Errorf("65535 entries: %d", err)
	}
	fails(t, packOf(entries...), nil, api.ErrForm)
}

// P8.1: an entry based on the k-th one before it.
func TestReadInside(t *testing.T) {
	a, b, c := text("a"), text("bb"), build(1, 1, extended("bb", "!"))
	reads(t, packOf(a, b, c), nil, "a", "bb", "bb!")
	reads(t, packOf(a, b, build(1, 2, extended("a", "!"))), nil, "a", "bb", "a!")
	reads(t, packOf(a, b, c, build(1, 1, extended("bb!", "?"))), nil, "a", "bb", "bb!", "bb!?")
	reads(t, packOf(a, build(1, 1, string(build(0)))), nil, "a", "")
	for _, k := range []int{4, 5, 1000, 1<<62 - 1, 1 << 62} {
		fails(t, packOf(a, b, c, build(1, k, "")), nil, api.ErrBase)
		fails(t, packOf(a, b, c, build(1, k, "")), haveOf("a", ""), api.ErrBase)
	}
	fails(t, packOf(build(1, 1, extended("", "x"))), nil, api.ErrBase)
	fails(t, packOf(a, build(1, 0, extended("a", "!"))), nil, api.ErrForm)
}

// P8.1: an entry based on an object that is not in the pack.
func TestReadOutside(t *testing.T) {
	a := build(2, idOf("old"), extended("old", "er"))
	b := build(2, idOf("x"), extended("x", "y"))
	c := build(2, idOf("old"), extended("old", "est"))
	p := reads(t, packOf(a, b, c, text("t")), haveOf("x", "y", "old"), "older", "xy", "oldest", "t")
	if !slices.Equal(p.Outside(), idsOf("old", "x")) {
		t.Errorf("outside are %v", p.Outside())
	}
	fails(t, packOf(a), nil, api.ErrBase)
	fails(t, packOf(a), haveOf("x"), api.ErrBase)
	fails(t, packOf(text("old"), a), haveOf("x"), api.ErrBase)
	reads(t, packOf(text("old"), a), haveOf("old"), "old", "older")
	unnamed := func(id api.ID) ([]byte, bool) { return []byte("old"), id == api.ID{} }
	p = reads(t, packOf(build(2, api.ID{}, extended("old", "er"))), unnamed, "older")
	if !slices.Equal(p.Outside(), []api.ID{{}}) {
		t.Errorf("outside are %v", p.Outside())
	}
	all := build(2, idOf("old"), "\x01\x02x")
	reads(t, packOf(all), haveOf("old"), "x")
	fails(t, packOf(all), nil, api.ErrBase)
	fails(t, packOf(all), haveOf("x"), api.ErrBase)
	unsure := func(id api.ID) ([]byte, bool) { return []byte("old"), false }
	fails(t, packOf(a), unsure, api.ErrBase)
}

// P8.1: have is asked for the bases of the third kind alone, and only up to the first error.
func TestReadAsksHave(t *testing.T) {
	var asked []api.ID
	have := func(id api.ID) ([]byte, bool) {
		asked = append(asked, id)
		return []byte("z"), id == idOf("z")
	}
	ask := func(entries ...raw) []api.ID {
		asked = nil
		Read(packOf(entries...), have)
		return asked
	}
	onZ := build(2, idOf("z"), extended("z", "!"))
	onY := build(2, idOf("y"), extended("z", "?"))
	if got := ask(text("a"), build(1, 1, extended("a", "b")), onZ); !slices.Equal(got, []api.ID{idOf("z")}) {
		t.Errorf("have was asked for %v", got)
	}
	if got := ask(text("a"), onY, onZ); !slices.Equal(got, []api.ID{idOf("y")}) {
		t.Errorf("have was asked for %v", got)
	}
	if got := ask(text("a"), text("a"), onZ); got != nil {
		t.Errorf("have was asked for %v", got)
	}
}

// chain returns a pack in which each entry is based on the one before it, and its texts.
func chain(first raw, base string, n int) ([]raw, []string) {
	entries, texts := []raw{first}, []string{base}
	for range n {
		entries = append(entries, build(1, 1, extended(base, "+")))
		base += "+"
		texts = append(texts, base)
	}
	return entries, texts
}

// P8.1: chains up to the longest one.
func TestReadChains(t *testing.T) {
	entries, texts := chain(text("a"), "a", 9)
	reads(t, packOf(entries[:9]...), nil, texts[:9]...)
	fails(t, packOf(entries...), nil, api.ErrChain)
	branch := build(1, 2, extended(texts[7], "!"))
	reads(t, packOf(append(slices.Clone(entries[:9]), branch)...), nil, append(slices.Clone(texts[:9]), texts[7]+"!")...)
	branch = build(1, 1, extended(texts[8], "!"))
	fails(t, packOf(append(slices.Clone(entries[:9]), branch)...), nil, api.ErrChain)
	first := build(2, idOf("old"), extended("old", "er"))
	entries, texts = chain(first, "older", 8)
	reads(t, packOf(entries[:8]...), haveOf("old"), texts[:8]...)
	fails(t, packOf(entries...), haveOf("old"), api.ErrChain)
	last := build(2, idOf("old"), extended("old", "est"))
	reads(t, packOf(append(slices.Clone(entries[:8]), last)...), haveOf("old"), append(slices.Clone(texts[:8]), "oldest")...)
}

// P8.1: bytes that are not a pack.
func TestReadForm(t *testing.T) {
	good := packOf(text("abc"), build(1, 1, extended("abc", "d")), build(2, idOf("z"), extended("z", "y")))
	reads(t, good, haveOf("z"), "abc", "abcd", "zy")
	body := good[:len(good)-4]
	for n := range len(good) {
		fails(t, good[:n], haveOf("z"), api.ErrForm)
		if n < len(body) {
			fails(t, sealed(raw(body[:n])), haveOf("z"), api.ErrForm)
		}
	}
	for _, more := range []string{"\x00", "\x00\x00", "more", "\x00\x01x"} {
		fails(t, sealed(raw(body), raw(more)), haveOf("z"), api.ErrForm)
		fails(t, append(slices.Clone(good), more...), haveOf("z"), api.ErrForm)
	}
	for _, b := range [][]byte{
		nil, []byte("PLRD"), []byte("PLRD\x00"), sealed(), sealed(0), sealed(1, text("a")), sealed(raw("\x00PLRD"), 0), sealed(raw("PLRE"), 0), sealed(raw("plrd"), 0), sealed(raw("PLR"), 0),
		sealed(start), sealed(start, raw{0x80, 0}), sealed(start, raw{0x80}), sealed(start, 65536), sealed(start, 1<<62),
		sealed(start, 1), sealed(start, 2, text("a")), sealed(start, 0, text("a")), sealed(start, start, 0),
		packOf(build(3, "a")), packOf(build(4, idOf("z"), "a")), packOf(raw{0x80, 0}), packOf(raw{0, 0x80, 0}),
		packOf(build(0, 1<<20+1, raw(strings.Repeat("x", 1<<20+1)))), packOf(build(0, 5, raw("abc"))), packOf(raw{0}),
		packOf(text("a"), build(1, 0, "")), packOf(text("a"), raw{1, 0x81, 0, 1, 0}), packOf(text("a"), build(1, 1)), packOf(text("a"), build(1)),
		packOf(build(2, idOf("z"))), packOf(build(2, idOf("z"), 1)), packOf(build(2, raw("short"))),
		packOf(build(2, idOf("z"), 1<<20+1, raw(strings.Repeat("x", 1<<20+1)))),
	} {
		fails(t, b, haveOf("z"), api.ErrForm)
	}
}

// P8.1: the checksum.
func TestReadSum(t *testing.T) {
	good := packOf(text("abc"))
	for i := len(good) - 4; i < len(good); i++ {
		for bit := range 8 {
			bad := slices.Clone(good)
			bad[i] ^= 1 << bit
			fails(t, bad, nil, api.ErrForm)
		}
	}
	body := good[:len(good)-4]
	backward := slices.Clone(good)
	slices.Reverse(backward[len(body):])
	fails(t, backward, nil, api.ErrForm)
	fails(t, append(slices.Clone(body), 0, 0, 0, 0), nil, api.ErrForm)
}

// P8.1: the errors of a delta, and the same object twice.
func TestReadObjects(t *testing.T) {
	for _, c := range []struct {
		diff string
		want api.Errno
	}{
		{"", api.ErrForm}, {"\x01", api.ErrForm}, {"\x00\x01", api.ErrForm}, {"\x02\x05\x02", api.ErrBase}, {"\x01\x03\x03", api.ErrBase},
		{string(build(1<<20 + 1)), api.ErrForm}, {"\x03\x07\x00", api.ErrTwice},
	} {
		fails(t, packOf(text("abc"), build(1, 1, c.diff)), nil, c.want)
		fails(t, packOf(text("abc"), build(2, idOf("abc"), c.diff)), haveOf("abc"), c.want)
	}
	fails(t, packOf(text(""), text("")), nil, api.ErrTwice)
	fails(t, packOf(text("ab"), text("a"), text("ab")), nil, api.ErrTwice)
	reads(t, packOf(build(2, idOf("abc"), "\x03\x07\x00")), haveOf("abc"), "abc")
}

// P8.1: of several errors, the first entry's counts, and of one entry the one named first.
func TestReadFirstError(t *testing.T) {
	entries, _ := chain(text("a"), "a", 8)
	tooLong := build(1, 1, "")
	form, base, twice := build(3), build(1, 99, ""), text("a")
	for _, c := range []struct {
		next raw
		want api.Errno
	}{{form, api.ErrForm}, {base, api.ErrBase}, {tooLong, api.ErrChain}, {twice, api.ErrTwice}, {build(1, 9, ""), api.ErrForm}, {build(1, 9, "\x01\x03\x01"), api.ErrBase}} {
		for _, last := range []raw{form, base, tooLong, twice, build(0)} {
			fails(t, packOf(append(slices.Clone(entries), c.next, last)...), nil, c.want)
		}
		parts := []any{start, 10, build(), c.next, raw("remains")}
		for _, e := range entries {
			parts[2] = append(parts[2].(raw), e...)
		}
		fails(t, sealed(parts...), nil, c.want)
	}
	fails(t, packOf(build(1, 99, 5)), nil, api.ErrForm)
	fails(t, packOf(build(2, idOf("z"), 5)), nil, api.ErrForm)
	fails(t, sealed(start, 1, text("a"), text("a")), nil, api.ErrForm)
}

// slowRead reads a pack as the chapter says it, entry by entry. It returns the objects in the order of the entries.
func slowRead(b []byte, have func(id api.ID) ([]byte, bool)) (objects []string, err api.Errno) {
	if len(b) < 8 || string(b[:4]) != "PLRD" || !bytes.Equal(enc.Four(nil, enc.Sum(b[:len(b)-4])), b[len(b)-4:]) {
		return nil, api.ErrForm
	}
	r := enc.Read(b[4 : len(b)-4])
	count := r.Num(65535)
	if !r.Good() {
		return nil, api.ErrForm
	}
	var chains []int
	for i := range int(count) {
		kind, k, id := r.Num(2), int64(1), api.ID{}
		if kind == 1 {
			k = r.Num(1 << 62)
		}
		if kind == 2 {
			id = r.Id()
		}
		object := r.Text(1 << 20)
		if !r.Good() || k == 0 {
			return nil, api.ErrForm
		}
		var base []byte
		ok, length := true, 0
		switch {
		case kind == 1 && k > int64(i):
			ok = false
		case kind == 1:
			base, length = []byte(objects[i-int(k)]), chains[i-int(k)]+1
		case kind == 2:
			base, ok = have(id)
			length = 1
		}
		if !ok {
			return nil, api.ErrBase
		}
		if length > 8 {
			return nil, api.ErrChain
		}
		if kind > 0 {
			out, err := delta.Apply(base, []byte(object))
			if err != api.OK {
				return nil, err
			}
			object = string(out)
		}
		if slices.Contains(objects, object) {
			return nil, api.ErrTwice
		}
		objects, chains = append(objects, object), append(chains, length)
	}
	if !r.Done() {
		return nil, api.ErrForm
	}
	return objects, api.OK
}

// randomEntry returns an entry, which is seldom wrong.
func randomEntry(r *rand.Rand, i int) raw {
	word := strings.Repeat(string(rune('a'+r.IntN(20))), 4) + strconv.Itoa(r.IntN(50))
	diff := string(build(2+len(word), 5, r.IntN(3), 2*len(word), raw(word)))
	bases := []string{"one!", "two!", "three", "four"}
	switch n := r.IntN(60); {
	case n == 0:
		return build(r.IntN(4), r.IntN(3), diff[:r.IntN(len(diff))])
	case n == 1:
		return build(1, i+1+r.IntN(2), diff)
	case n < 8:
		return build(2, idOf(bases[r.IntN(3+n/6)]), diff)
	case n < 15 || i == 0:
		return text(word)
	}
	return build(1, 1+r.IntN(min(i, 2)), diff)
}

// P8.1: random packs, against the slow way.
func TestReadRandom(t *testing.T) {
	r := rand.New(rand.NewPCG(8, 1))
	have := haveOf("one!", "two!", "three")
	seen := map[api.Errno]int{}
	for range 20000 {
		parts := []any{start, 0}
		n := 1 + r.IntN(20)
		for i := range n {
			parts = append(parts, randomEntry(r, i))
		}
		parts[1] = n + max(0, r.IntN(30)-28)
		b := sealed(parts...)
		if r.IntN(20) == 0 {
			b = []byte(raw(b[:len(b)-4]))
			b[r.IntN(len(b))] ^= byte(1 << r.IntN(8))
			b = sealed(raw(b))
		}
		objects, err := slowRead(b, have)
		seen[err]++
		if err != api.OK {
			fails(t, b, have, err)
			continue
		}
		reads(t, b, have, objects...)
	}
	for _, err := range []api.Errno{api.OK, api.ErrForm, api.ErrBase, api.ErrChain, api.ErrTwice} {
		if seen[err] < 20 {
			t.Errorf("there were too few packs that answer %d: %v", err, seen)
		}
	}
}

// P8.3: results of Read, IDs, Get and Outside are newly allocated; arguments are not modified and not retained.
func TestReadMemory(t *testing.T) {
	b := packOf(text("abc"), build(2, idOf("old"), extended("old", "er")), build(2, idOf("x"), extended("x", "y")))
	before := slices.Clone(b)
	old, x := []byte("old")[:3:3], []byte("x")
	p, err := Read(b, func(id api.ID) ([]byte, bool) {
		if id == idOf("old") {
			return old, true
		}
		return x, true
	})
	if err != api.OK || !bytes.Equal(b, before) || string(old) != "old" || string(x) != "x" {
		t.Fatalf("Read answers %d, or has modified an argument", err)
	}
	clear(b)
	clear(old)
	clear(x)
	expect(t, p, "abc", "older", "xy")
	ids, outside := p.IDs(), p.Outside()
	got, _ := p.Get(idOf("abc"))
	more, _ := p.Get(idOf("older"))
	clear(ids[:cap(ids)])
	clear(outside[:cap(outside)])
	clear(got[:cap(got)])
	clear(more[:cap(more)])
	expect(t, p, "abc", "older", "xy")
	if !slices.Equal(p.Outside(), idsOf("old", "x")) {
		t.Error("two results of Outside share memory")
	}
}
