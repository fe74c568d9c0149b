package pack

import (
	"bytes"
	"math/rand/v2"
	"slices"
	"strconv"
	"strings"
	"testing"

	"pollard/api"
	"pollard/enc"
)

// listOf returns the bytes of some texts.
func listOf(texts ...string) [][]byte {
	var list [][]byte
	for _, s := range texts {
		list = append(list, []byte(s))
	}
	return list
}

// written returns a pack of some texts, and fails the test if it is too long.
func written(t *testing.T, objects, outside []string) []byte {
	t.Helper()
	b, err := Write(listOf(objects...), listOf(outside...))
	if err != api.OK {
		t.Fatalf("Write answers %d", err)
	}
	total, each := 64, map[string]int{}
	for _, s := range objects {
		each[s] = len(s) + 48
	}
	for _, size := range each {
		total += size
	}
	if len(b) > total {
		t.Fatalf("the pack has %d bytes, more than %d", len(b), total)
	}
	return b
}

// P8.2: what is written is read, if have returns what is outside.
func roundTrip(t *testing.T, objects, outside []string) ([]byte, *Pack) {
	t.Helper()
	b := written(t, objects, outside)
	p := reads(t, b, haveOf(outside...), objects...)
	for _, id := range p.Outside() {
		if !slices.Contains(idsOf(outside...), id) || slices.Contains(idsOf(objects...), id) {
			t.Fatalf("an entry is based on %v", id)
		}
	}
	return b, p
}

// P8.2: the examples of the chapter.
func TestExamples(t *testing.T) {
	a := strings.Repeat("a", 20)
	b, _ := roundTrip(t, []string{a, a + "b"}, nil)
	if len(b) > 40 {
		t.Errorf("the pack has %d bytes: no entry is a difference from the other", len(b))
	}
	b, _ = roundTrip(t, nil, nil)
	if want := sealed(start, 0); !bytes.Equal(b, want) || len(b) != 9 {
		t.Errorf("the pack without entries is %v, not %v", b, want)
	}
}

// P8.2: objects of all kinds, each once.
func TestWrite(t *testing.T) {
	long := strings.Repeat("0123456789abcdef", 1<<16)
	for _, objects := range [][]string{
		{""}, {"", ""}, {"a"}, {"a", "b", "a"}, {"\x00", "\x00\x00", "\xff", ""}, {"PLRD", "PLRD"}, {long}, {long, long[1:], long[5000:] + "end"},
		{strings.Repeat("same", 30), "x", strings.Repeat("same", 30), strings.Repeat("same", 31)},
	} {
		roundTrip(t, objects, nil)
		roundTrip(t, objects, []string{"", "b", "PLRD", long})
	}
}

// P8.2: similar texts are stored as differences, wherever they differ.
func TestWriteSimilar(t *testing.T) {
	r := rand.New(rand.NewPCG(8, 2))
	random := func(n int) string {
		b := make([]byte, n)
		for i := range b {
			b[i] = byte(r.IntN(256))
		}
		return string(b)
	}
	for _, size := range []int{40, 200, 1000, 4096, 100_000, 1<<20 - 20} {
		base := random(size)
		for _, other := range []string{base + "more", "more" + base, base[:size/2] + "more" + base[size/2:], base[:size/3] + base[size/3+3:], base[7:]} {
			b, _ := roundTrip(t, []string{base, other}, nil)
			if len(b) > size+60 {
				t.Errorf("size %d: the pack has %d bytes", size, len(b))
			}
			if size < 100 {
				continue
			}
			b, p := roundTrip(t, []string{other}, []string{random(50), base, random(5000)})
			if len(b) > 100 || !slices.Equal(p.Outside(), idsOf(base)) {
				t.Errorf("size %d: the pack has %d bytes, and %v outside", size, len(b), p.Outside())
			}
		}
	}
}

// P8.2: of many texts that have something in common, the most similar one is the base.
func TestWriteMostSimilar(t *testing.T) {
	r := rand.New(rand.NewPCG(8, 7))
	head := "what stands at the start of every one of these texts\n"
	var texts []string
	for range 10 {
		s := head
		for range 40 {
			s += strconv.Itoa(r.IntN(1_000_000_000))
		}
		texts = append(texts, s)
	}
	for i, s := range texts {
		b, p := roundTrip(t, []string{s[:100] + "another " + s[100:]}, texts)
		if len(b) > 100 || !slices.Equal(p.Outside(), idsOf(texts[i])) {
			t.Errorf("the base of text %d is another one, and the pack has %d bytes", i, len(b))
		}
	}
}

// P8.2: what is in the pack is not a base from outside, even if it is given as such.
func TestWriteOutside(t *testing.T) {
	a := strings.Repeat("0123456789", 30)
	b, p := roundTrip(t, []string{a, a + "b"}, []string{a, a + "b"})
	if p.Outside() != nil {
		t.Errorf("%v is outside", p.Outside())
	}
	reads(t, b, nil, a, a+"b")
	_, p = roundTrip(t, []string{a + "b"}, []string{a, a, "none"})
	if !slices.Equal(p.Outside(), idsOf(a)) {
		t.Errorf("%v is outside", p.Outside())
	}
	fails(t, written(t, []string{a + "b"}, []string{a}), nil, api.ErrBase)
}

// P8.2: many versions of a text, in any order: no chain is too long.
func TestWriteChains(t *testing.T) {
	r := rand.New(rand.NewPCG(8, 3))
	for round := range 20 {
		lines := make([]string, 30)
		for i := range lines {
			lines[i] = "line " + strconv.Itoa(r.IntN(1000)) + "\n"
		}
		var versions []string
		for range 100 {
			lines[r.IntN(len(lines))] = "other " + strconv.Itoa(r.IntN(1000)) + "\n"
			versions = append(versions, strings.Join(lines, ""))
		}
		if round%2 == 1 {
			r.Shuffle(len(versions), func(i, j int) { versions[i], versions[j] = versions[j], versions[i] })
		}
		b, _ := roundTrip(t, versions, versions[:round])
		if sum := len(strings.Join(versions, "")); len(b) > sum*2/3 {
			t.Errorf("the pack has %d bytes, and the versions %d", len(b), sum)
		}
	}
	// Each text has all of the one before, and as much that is its own: the best base is the last one.
	var grown []string
	for _, half := range []int{0, 1} {
		s := ""
		for i := range 12 {
			s = strings.Repeat(strconv.Itoa(100+i), 20)[half:] + s[:len(s)*2/3]
			grown = append(grown, s)
		}
	}
	roundTrip(t, grown, nil)
	roundTrip(t, grown, grown[:1])
}

// P8.2: a chain is as long as it may be, and not longer.
func TestWriteLongestChain(t *testing.T) {
	r := rand.New(rand.NewPCG(8, 4))
	block := func() string {
		b := make([]byte, 200)
		for i := range b {
			b[i] = byte(r.IntN(256))
		}
		return string(b)
	}
	// Each text shares one block with the next one, and nothing with others.
	var texts []string
	left := block()
	for i := range 40 {
		right := block()
		texts = append(texts, left+right[:200-i])
		left = right[:200-i]
	}
	b, _ := roundTrip(t, texts, nil)
	most := 0
	for _, n := range chains(t, b) {
		most = max(most, n)
	}
	if most != api.MaxChain {
		t.Errorf("the longest chain has length %d", most)
	}
}

// chains returns the chain lengths of the entries of a pack.
func chains(t *testing.T, b []byte) []int {
	r := enc.Read(b[4 : len(b)-4])
	var lengths []int
	for i := range int(r.Num(65535)) {
		length := 0
		switch r.Num(2) {
		case 1:
			length = lengths[i-int(r.Num(65535))] + 1
		case 2:
			r.Id()
			length = 1
		}
		r.Text(1 << 20)
		lengths = append(lengths, length)
	}
	if !r.Done() {
		t.Fatal("not a pack")
	}
	return lengths
}

// P8.2: the same pack for the same arguments.
func TestWriteSame(t *testing.T) {
	r := rand.New(rand.NewPCG(8, 5))
	for range 30 {
		var objects, outside []string
		for range 40 {
			s := strings.Repeat(strconv.Itoa(r.IntN(50)), 1+r.IntN(20)) + strings.Repeat(strconv.Itoa(r.IntN(50)), 1+r.IntN(20))
			if r.IntN(3) > 0 {
				objects = append(objects, s)
			} else {
				outside = append(outside, s)
			}
		}
		b, _ := roundTrip(t, objects, outside)
		for range 5 {
			if again := written(t, objects, outside); !bytes.Equal(again, b) {
				t.Fatal("the pack of the same objects differs")
			}
		}
		slices.Reverse(objects)
		if again := written(t, append(objects, objects[:5]...), outside); !bytes.Equal(again, b) {
			t.Fatal("the pack of the same objects in another order differs")
		}
	}
}

// P8.2: errors, and that which is just none.
func TestWriteErrors(t *testing.T) {
	var many [][]byte
	for i := range 65536 {
		many = append(many, []byte(strconv.Itoa(i)))
	}
	long := make([]byte, 1<<20+1)
	for _, c := range []struct {
		objects, outside [][]byte
		want             api.Errno
	}{
		{many, nil, api.ErrMany}, {append(slices.Clone(many), long), nil, api.ErrMany},
		{[][]byte{long}, nil, api.ErrLong}, {[][]byte{nil, long, nil}, [][]byte{long}, api.ErrLong},
	} {
		if b, err := Write(c.objects, c.outside); err != c.want || b != nil {
			t.Errorf("Write answers %d bytes, %d, not %d", len(b), err, c.want)
		}
	}
	b, err := Write(many[:65535], many[65535:])
	if err != api.OK || len(b) > 64+65535*(48+5) {
		t.Fatalf("65535 objects: %d bytes, %d", len(b), err)
	}
	if p, err := Read(b, nil); err != api.OK || len(p.IDs()) != 65535 {
		t.Errorf("65535 objects are read with %d", err)
	}
	b, err = Write([][]byte{long[1:]}, append(many, long))
	if err != api.OK {
		t.Fatalf("the longest object: %d", err)
	}
	reads(t, b, haveOf(string(long)), string(long[1:]))
}

// P8.2: two different elements with the same ID. No such bytes are known, so it is asked of the table of the IDs.
func TestDistinct(t *testing.T) {
	d := distinct{idOf("a"): []byte("not a")}
	if added, ok := d.add(listOf("b", "b", "c")); !ok || len(added) != 2 {
		t.Errorf("add answers %v, %v", added, ok)
	}
	if added, ok := d.add(listOf("b", "c")); !ok || added != nil {
		t.Errorf("add of known ones answers %v, %v", added, ok)
	}
	if added, ok := d.add(listOf("x", "a")); ok || added != nil {
		t.Errorf("add of another one with a known ID answers %v, %v", added, ok)
	}
}

// P8.2: with one byte changed, a pack is not read.
func TestChangedByte(t *testing.T) {
	a := strings.Repeat("0123456789", 20)
	b, _ := roundTrip(t, []string{a, a + "b", "other", ""}, []string{"c" + a})
	for i := range b {
		for change := 1; change < 256; change++ {
			bad := slices.Clone(b)
			bad[i] ^= byte(change)
			if p, err := Read(bad, haveOf("c"+a)); err == api.OK || p != nil {
				t.Fatalf("byte %d changed by %d: Read answers %d", i, change, err)
			}
		}
	}
}

// P8.2: random lists.
func TestWriteRandom(t *testing.T) {
	r := rand.New(rand.NewPCG(8, 6))
	for range 400 {
		words := []string{"alpha ", "beta ", "gamma ", "delta ", "epsilon ", "zeta\n", "\x00\x01"}
		draw := func() (texts []string) {
			for range r.IntN(20) {
				s := ""
				for range r.IntN(12) {
					s += strings.Repeat(words[r.IntN(len(words))], 1+r.IntN(3))
				}
				texts = append(texts, s)
			}
			return texts
		}
		roundTrip(t, draw(), draw())
	}
}

// P8.3: results of Write are newly allocated; arguments are not modified and not retained.
func TestWriteMemory(t *testing.T) {
	memory := []byte("0123456789012345678901234567890123456789")
	objects := [][]byte{memory[:20], memory[:30], memory[5:5], nil}
	outside := [][]byte{memory[10:35], memory[:30]}
	before, order := slices.Clone(memory), slices.Clone(objects)
	b, err := Write(objects, outside)
	again, _ := Write(objects, outside)
	if err != api.OK || !bytes.Equal(memory, before) {
		t.Fatalf("Write answers %d, or has modified an argument", err)
	}
	for i := range objects {
		if len(objects[i]) != len(order[i]) || !bytes.Equal(objects[i], order[i]) {
			t.Fatal("Write has modified the list")
		}
	}
	clear(again[:cap(again)])
	clear(memory)
	reads(t, b, haveOf(string(before[10:35])), string(before[:20]), string(before[:30]), "")
}
