package enc

import (
	"bytes"
	"encoding/binary"
	"hash/crc32"
	"math"
	"math/rand/v2"
	"pollard/api"
	"slices"
	"strings"
	"testing"
)

func randomBytes(r *rand.Rand, n int) []byte {
	b := make([]byte, n)
	for i := range b {
		b[i] = byte(r.Uint32())
	}
	return b
}

// edgeNums are the numbers around each size of an encoding, from 0 to the greatest one.
func edgeNums() []int64 {
	nums := []int64{0, 1, 300}
	for size := 1; size < 9; size++ {
		edge := int64(1) << (7 * size)
		nums = append(nums, edge-1, edge, edge+1)
	}
	return append(nums, 1<<61, 1<<62-1, 1<<62)
}

func sampleID() api.ID {
	var id api.ID
	for i := range id {
		id[i] = byte(200 + i)
	}
	return id
}

// P2.1: the encodings of numbers.
func TestNum(t *testing.T) {
	for _, n := range edgeNums() {
		want := binary.AppendUvarint([]byte("x"), uint64(n))
		if got := Num([]byte("x"), n); !bytes.Equal(got, want) {
			t.Errorf("Num(%d) = %v, not %v", n, got, want)
		}
	}
	if got := Num(nil, 300); !bytes.Equal(got, []byte{172, 2}) {
		t.Errorf("Num(300) = %v", got)
	}
}

// P2.1: a number below 0 counts as 0, one above 2^62 as 2^62.
func TestNumOutsideItsRange(t *testing.T) {
	for _, n := range []int64{-1, -128, math.MinInt64} {
		if got := Num(nil, n); !bytes.Equal(got, []byte{0}) {
			t.Errorf("Num(%d) = %v", n, got)
		}
	}
	for _, n := range []int64{1<<62 + 1, 1<<62 + 1<<40, math.MaxInt64} {
		if got := Num(nil, n); !bytes.Equal(got, Num(nil, 1<<62)) {
			t.Errorf("Num(%d) = %v", n, got)
		}
	}
}

// P2.1: the encodings of texts, IDs and numbers in four bytes.
func TestTextIdFour(t *testing.T) {
	if got := Text(nil, "ab"); !bytes.Equal(got, []byte{2, 97, 98}) {
		t.Errorf("Text = %v", got)
	}
	if got := Text([]byte{5}, ""); !bytes.Equal(got, []byte{5, 0}) {
		t.Errorf("Text of no bytes = %v", got)
	}
	if got, long := Text([]byte{5}, strings.Repeat("\xff", 300)), bytes.Repeat([]byte{255}, 300); !bytes.Equal(got, append([]byte{5, 172, 2}, long...)) {
		t.Errorf("Text of 300 bytes = %v", got)
	}
	id := sampleID()
	if got := Id([]byte{5}, id); !bytes.Equal(got, append([]byte{5}, id[:]...)) {
		t.Errorf("Id = %v", got)
	}
	if got := Four([]byte{5}, 0x04030201); !bytes.Equal(got, []byte{5, 1, 2, 3, 4}) {
		t.Errorf("Four = %v", got)
	}
	if got := Four(nil, math.MaxUint32); !bytes.Equal(got, []byte{255, 255, 255, 255}) {
		t.Errorf("Four = %v", got)
	}
}

// P2.2: a number is read back up to its most, and not beyond.
func TestReadNum(t *testing.T) {
	for _, n := range edgeNums() {
		b := append(Num(nil, n), 77)
		for _, most := range []int64{n, max(n, 1<<62), math.MaxInt64} {
			r := Read(b)
			if r.Num(most) != n || !r.Good() || r.Left() != 1 || r.Done() || r.Num(77) != 77 || !r.Done() {
				t.Errorf("%d is not read with most %d", n, most)
			}
		}
		for _, most := range []int64{n - 1, -1, math.MinInt64} {
			if r := Read(b); r.Num(most) != 0 || r.Good() {
				t.Errorf("%d is read with most %d", n, most)
			}
		}
	}
}

// P2.2: a beginning of a number is no number.
func TestReadPartOfNum(t *testing.T) {
	for _, n := range edgeNums() {
		b := Num(nil, n)
		for size := range len(b) {
			if r := Read(b[:size]); r.Num(math.MaxInt64) != 0 || r.Good() {
				t.Errorf("%v is read as a number", b[:size])
			}
		}
	}
}

// P2.2: more bytes than needed, and numbers above 2^62, are no numbers.
func TestReadNoNum(t *testing.T) {
	full := bytes.Repeat([]byte{128}, 8)
	for _, b := range [][]byte{
		{128, 0}, {255, 0}, {172, 130, 0}, append(slices.Clone(full), 0),
		append(slices.Clone(full), 128), append(slices.Clone(full), 65), append(slices.Clone(full), 127),
		append([]byte{129}, append(slices.Clone(full[1:]), 64)...),
		append(slices.Clone(full), 192, 0), append(slices.Clone(full), 128, 1), append(slices.Clone(full), 128, 128, 1),
		bytes.Repeat([]byte{255}, 9), bytes.Repeat([]byte{255}, 20),
	} {
		if r := Read(b); r.Num(math.MaxInt64) != 0 || r.Good() || r.Left() != 0 {
			t.Errorf("%v is read as a number", b)
		}
	}
}

// checkExact checks that a number that is read has exactly the bytes that were taken.
func checkExact(t *testing.T, b []byte) {
	t.Helper()
	r := Read(b)
	n := r.Num(math.MaxInt64)
	if r.Good() && !bytes.Equal(Num(nil, n), b[:len(b)-r.Left()]) {
		t.Fatalf("%v is read as %d", b, n)
	}
}

// P2.2: of all strings of up to two bytes, and many longer ones, none is read as a number but its encoding.
func TestReadNumOfAnyBytes(t *testing.T) {
	for i := range 1 << 16 {
		checkExact(t, []byte{byte(i)})
		checkExact(t, []byte{byte(i), byte(i >> 8)})
	}
	r := rand.New(rand.NewPCG(1, 1))
	for range 100_000 {
		b := randomBytes(r, r.IntN(13))
		for i := range b {
			b[i] |= byte(r.IntN(2)) << 7
			b[i] &= ^byte(r.IntN(2) * 127)
		}
		checkExact(t, b)
	}
}

// P2.2: a text is read back up to its most, and not beyond, and not without all its bytes.
func TestReadText(t *testing.T) {
	for _, s := range []string{"", "a", "ab", "a\x00\xff\n", "\u00e4\u4e16", strings.Repeat("z", 127), strings.Repeat("z", 128), strings.Repeat("\xfe", 20_000)} {
		b := append(Text(nil, s), 77)
		for _, most := range []int{len(s), len(s) + 1, math.MaxInt} {
			r := Read(b)
			if r.Text(most) != s || r.Left() != 1 || r.Num(77) != 77 || !r.Done() {
				t.Errorf("text of %d bytes is not read with most %d", len(s), most)
			}
		}
		for _, most := range []int{len(s) - 1, -1, math.MinInt} {
			if r := Read(b); r.Text(most) != "" || r.Good() {
				t.Errorf("text of %d bytes is read with most %d", len(s), most)
			}
		}
		for _, size := range []int{0, 1, len(b) / 2, len(b) - 2} {
			if r := Read(b[:min(size, len(b)-2)]); r.Text(math.MaxInt) != "" || r.Good() {
				t.Errorf("text of %d bytes is read from %d", len(s), size)
			}
		}
	}
}

// P2.2: a text whose length isn't encoded rightly, or is greater than what remains, is no text.
func TestReadNoText(t *testing.T) {
	for _, b := range [][]byte{{}, {128}, {128, 0}, {129, 0, 'a'}, {1}, {3, 'a', 'b'}, Num(nil, 1<<62), append(Num(nil, 1<<40), 'a')} {
		if r := Read(b); r.Text(math.MaxInt) != "" || r.Good() || r.Left() != 0 {
			t.Errorf("%v is read as a text", b)
		}
	}
}

// P2.2: an ID is read back from 32 bytes, and not from fewer.
func TestReadId(t *testing.T) {
	id := sampleID()
	b := append(Id(nil, id), 77)
	if r := Read(b); r.Id() != id || r.Left() != 1 || !r.Good() {
		t.Error("an ID is not read")
	}
	for size := range 32 {
		if r := Read(b[:size]); r.Id() != (api.ID{}) || r.Good() || r.Left() != 0 {
			t.Errorf("an ID is read from %d bytes", size)
		}
	}
}

// P2.2: a number of four bytes is read back from them, and not from fewer.
func TestReadFour(t *testing.T) {
	for _, u := range []uint32{0, 1, 0x04030201, 0x80000000, 0xff00ff00, math.MaxUint32} {
		b := append(Four(nil, u), 77)
		if r := Read(b); r.Four() != u || r.Left() != 1 || !r.Good() {
			t.Errorf("%x is not read", u)
		}
		for size := range 4 {
			if r := Read(b[:size]); r.Four() != 0 || r.Good() || r.Left() != 0 {
				t.Errorf("%x is read from %d bytes", u, size)
			}
		}
	}
}

// P2.1: a reader of no bytes is good and done, and fails at the first thing.
func TestReadNothing(t *testing.T) {
	for _, b := range [][]byte{nil, {}} {
		r := Read(b)
		if r.Left() != 0 || !r.Good() || !r.Done() {
			t.Error("a reader of no bytes is not done")
		}
		if r.Num(5) != 0 || r.Good() || r.Done() {
			t.Error("a number is read from no bytes")
		}
	}
}

// item is one thing that is written and read back.
type item struct {
	put func(b []byte) []byte
	get func(r *Reader) bool
}

func randomItem(rnd *rand.Rand) item {
	switch rnd.IntN(4) {
	case 0:
		n := rnd.Int64N(1<<62+1) >> rnd.IntN(63)
		return item{func(b []byte) []byte { return Num(b, n) }, func(r *Reader) bool { return r.Num(n) == n }}
	case 1:
		s := string(randomBytes(rnd, rnd.IntN(200)))
		return item{func(b []byte) []byte { return Text(b, s) }, func(r *Reader) bool { return r.Text(200) == s }}
	case 2:
		var id api.ID
		copy(id[:], randomBytes(rnd, len(id)))
		return item{func(b []byte) []byte { return Id(b, id) }, func(r *Reader) bool { return r.Id() == id }}
	}
	u := rnd.Uint32()
	return item{func(b []byte) []byte { return Four(b, u) }, func(r *Reader) bool { return r.Four() == u }}
}

// P2.1 and P2.2: many things, in any order, are read back, each from exactly its bytes.
func TestReadInEveryOrder(t *testing.T) {
	rnd := rand.New(rand.NewPCG(2, 2))
	for range 300 {
		items := make([]item, rnd.IntN(20))
		var b []byte
		var ends []int
		for i := range items {
			items[i] = randomItem(rnd)
			b = items[i].put(b)
			ends = append(ends, len(b))
		}
		r := Read(b)
		for i, x := range items {
			if !x.get(r) || !r.Good() || r.Left() != len(b)-ends[i] || r.Done() != (r.Left() == 0) {
				t.Fatalf("item %d of %d is not read back", i, len(items))
			}
		}
		if !r.Done() {
			t.Fatal("not done")
		}
	}
}

// failures are calls that let a reader of 2 'a' 'b' 'c' fail.
func failures() []func(r *Reader) {
	return []func(r *Reader){
		func(r *Reader) { r.Fail() },
		func(r *Reader) { r.Num(1) },
		func(r *Reader) { r.Num(-1) },
		func(r *Reader) { r.Text(1) },
		func(r *Reader) { r.Text(-1) },
		func(r *Reader) { r.Text(2); r.Text(1000) },
		func(r *Reader) { r.Id() },
		func(r *Reader) { r.Num(9); r.Four() },
		func(r *Reader) { r.Text(2); r.Num(98) },
	}
}

// P2.3: whatever let a reader fail, it remains so, whatever is called after that.
func TestFailedReaderRemainsSo(t *testing.T) {
	for i, fail := range failures() {
		r := Read([]byte{2, 'a', 'b', 'c'})
		fail(r)
		for range 3 {
			if r.Good() || r.Done() || r.Left() != 0 {
				t.Errorf("case %d: Good %v, Done %v, Left %d", i, r.Good(), r.Done(), r.Left())
			}
			if r.Num(1<<62) != 0 || r.Text(0) != "" || r.Text(9) != "" || r.Id() != (api.ID{}) || r.Four() != 0 {
				t.Errorf("case %d: something is read", i)
			}
			r.Fail()
		}
	}
}

// P2.3: a reader that fails behind its last byte has failed, too.
func TestFailAtTheEnd(t *testing.T) {
	r := Read([]byte{5})
	if r.Num(5) != 5 || !r.Done() {
		t.Error("not done")
	}
	r.Fail()
	if r.Good() || r.Done() {
		t.Error("not failed")
	}
}

// P2.1: the checksum is that of CRC-32.
func TestSum(t *testing.T) {
	if Sum([]byte("123456789")) != 0xcbf43926 || Sum(nil) != 0 || Sum([]byte{}) != 0 {
		t.Error("Sum of the examples")
	}
	r := rand.New(rand.NewPCG(3, 3))
	for n := range 300 {
		b := randomBytes(r, n)
		if Sum(b) != crc32.ChecksumIEEE(b) {
			t.Errorf("Sum(%v) = %x", b, Sum(b))
		}
	}
	for value := range 256 {
		if b := []byte{byte(value)}; Sum(b) != crc32.ChecksumIEEE(b) {
			t.Errorf("Sum(%v) = %x", b, Sum(b))
		}
	}
}

// writers are all functions that put something behind bytes.
func writers() []func(b []byte) []byte {
	return []func(b []byte) []byte{
		func(b []byte) []byte { return Num(b, 0) },
		func(b []byte) []byte { return Num(b, 1<<62) },
		func(b []byte) []byte { return Text(b, "") },
		func(b []byte) []byte { return Text(b, "abc") },
		func(b []byte) []byte { return Id(b, sampleID()) },
		func(b []byte) []byte { return Four(b, 9) },
	}
}

func overwrite(b []byte) {
	b = b[:cap(b)]
	for i := range b {
		b[i] ^= 255
	}
}

// P2.4: what is written is new memory: neither the argument nor what lies beyond its length is modified, then or later.
func TestWritersGiveNewMemory(t *testing.T) {
	for i, write := range writers() {
		memory := bytes.Repeat([]byte{7}, 100)
		first, second := write(memory[:3]), write(memory[:3])
		want := bytes.Clone(second)
		overwrite(first)
		if !bytes.Equal(memory, bytes.Repeat([]byte{7}, 100)) {
			t.Errorf("writer %d: the argument is modified", i)
		}
		overwrite(memory)
		if !bytes.Equal(second, want) || !bytes.HasPrefix(second, []byte{7, 7, 7}) {
			t.Errorf("writer %d: the results share memory", i)
		}
	}
}

// P2.1: nil and no bytes are equivalent, and so is any spare capacity.
func TestWritersBehindNothing(t *testing.T) {
	for i, write := range writers() {
		want := write(nil)
		if !bytes.Equal(write([]byte{}), want) || !bytes.Equal(write(make([]byte, 0, 50)), want) {
			t.Errorf("writer %d: nil and no bytes differ", i)
		}
	}
}

// P2.4: a reader does not keep the bytes that it was given, and modifies neither them nor what lies beyond.
func TestReaderKeepsNoArgument(t *testing.T) {
	b := Four(Id(Text(Num(nil, 300), "ab"), sampleID()), 5)
	memory := append(make([]byte, 0, 200), b...)
	beyond := memory[len(b):cap(memory)]
	r := Read(memory)
	if r.Num(300) != 300 || !bytes.Equal(memory, b) || !bytes.Equal(beyond, make([]byte, len(beyond))) {
		t.Error("the argument is modified")
	}
	overwrite(memory)
	if r.Text(2) != "ab" || r.Id() != sampleID() || r.Four() != 5 || !r.Done() {
		t.Error("the argument is retained")
	}
}

// P2.1: Sum does not modify its argument, and hangs on its bytes alone.
func TestSumLeavesItsArgument(t *testing.T) {
	memory := []byte("123456789 and more")
	if Sum(memory[:9]) != 0xcbf43926 || string(memory) != "123456789 and more" {
		t.Error("Sum of a part")
	}
}
