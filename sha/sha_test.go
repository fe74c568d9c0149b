package sha

import (
	"bytes"
	"crypto/sha256"
	"encoding/binary"
	"math/rand/v2"
	"pollard/api"
	"strings"
	"sync"
	"testing"
)

func randomBytes(r *rand.Rand, n int) []byte {
	b := make([]byte, n)
	for i := range b {
		b[i] = byte(r.Uint32())
	}
	return b
}

func checkSum(t *testing.T, b []byte) {
	t.Helper()
	want := api.ID(sha256.Sum256(b))
	if got := Sum(b); got != want {
		t.Errorf("Sum of %d bytes is %x, not %x", len(b), got, want)
	}
}

// P1.1: the examples of the chapter, and the published ones.
func TestSumOfKnownTexts(t *testing.T) {
	known := map[string]string{
		"":    "e3b0c44298fc1c149afbf4c8996fb92427ae41e4649b934ca495991b7852b855",
		"abc": "ba7816bf8f01cfea414140de5dae2223b00361a396177a9cb410ff61f20015ad",
		"abcdbcdecdefdefgefghfghighijhijkijkljklmklmnlmnomnopnopq": "248d6a61d20638b8e5c026930c3e6039a33ce45964ff2167f6ecedd419db06c1",
	}
	for text, digits := range known {
		if got := Hex(Sum([]byte(text))); got != digits {
			t.Errorf("Sum of %q is %s, not %s", text, got, digits)
		}
	}
	if Sum(nil) != Sum([]byte{}) {
		t.Error("nil and no bytes have different sums")
	}
}

// P1.1: all lengths around the ends of the first blocks, where the padding needs one block more or not.
func TestSumOfAllLengths(t *testing.T) {
	r := rand.New(rand.NewPCG(1, 1))
	for n := range 5*blockSize + 1 {
		checkSum(t, make([]byte, n))
		checkSum(t, bytes.Repeat([]byte{255}, n))
		checkSum(t, randomBytes(r, n))
	}
}

// P1.1: lengths whose number of bits fills three and four bytes.
func TestSumOfManyBytes(t *testing.T) {
	r := rand.New(rand.NewPCG(2, 2))
	for _, n := range []int{1 << 13, 1<<13 + 1, 100_000, 1 << 21, 1<<21 + 55} {
		checkSum(t, randomBytes(r, n))
	}
}

// P1.1: the number of bits has eight bytes, though nobody wants to sum so many bytes in a test.
func TestLengthOfVeryManyBytes(t *testing.T) {
	for _, size := range []int{1<<29 - 1, 1 << 29, 1<<31 - 1} {
		last := lastBlocks(make([]byte, size%blockSize), size)
		if bitCount := binary.BigEndian.Uint64(last[len(last)-lengthSize:]); bitCount != 8*uint64(size) {
			t.Errorf("%d bytes count as %d bits", size, bitCount)
		}
	}
}

// P1.1: each word of the round constants counts, so a wrong one shows in a single sum; each bit of the bytes counts, too.
func TestSumHangsOnEachBit(t *testing.T) {
	r := rand.New(rand.NewPCG(3, 3))
	b := randomBytes(r, 2*blockSize+7)
	for i := range 8 * len(b) {
		b[i/8] ^= 1 << (i % 8)
		checkSum(t, b)
		b[i/8] ^= 1 << (i % 8)
	}
}

// P1.2: Parse takes back what Hex gives, for every value of every byte.
func TestParseOfHex(t *testing.T) {
	for i := range len(api.ID{}) {
		for value := range 256 {
			var id api.ID
			id[i] = byte(value)
			digits := Hex(id)
			if len(digits) != 64 || strings.Trim(digits, "0123456789abcdef") != "" {
				t.Fatalf("Hex(%v) = %q", id, digits)
			}
			if got, ok := Parse(digits); !ok || got != id {
				t.Fatalf("Parse(%q) = %v, %v", digits, got, ok)
			}
		}
	}
}

// P1.2: Hex gives back what Parse takes.
func TestHexOfParse(t *testing.T) {
	r := rand.New(rand.NewPCG(4, 4))
	for range 1000 {
		var digits strings.Builder
		for range 64 {
			digits.WriteByte("0123456789abcdef"[r.IntN(16)])
		}
		id, ok := Parse(digits.String())
		if !ok || Hex(id) != digits.String() {
			t.Fatalf("Parse(%q) = %v, %v", digits.String(), id, ok)
		}
	}
}

// P1.1: the digits of a byte stand with the greater half first, and the first byte comes first.
func TestHexOrder(t *testing.T) {
	id := api.ID{0x12, 0xef}
	id[31] = 0xa0
	want := "12ef" + strings.Repeat("0", 58) + "a0"
	if Hex(id) != want {
		t.Errorf("Hex is %s, not %s", Hex(id), want)
	}
	if got, ok := Parse(want); !ok || got != id {
		t.Errorf("Parse(%s) = %v, %v", want, got, ok)
	}
}

func checkNoID(t *testing.T, s string) {
	t.Helper()
	if id, ok := Parse(s); ok || id != (api.ID{}) {
		t.Errorf("Parse(%q) = %v, %v", s, id, ok)
	}
}

// P1.1: another length is no ID.
func TestParseOfOtherLengths(t *testing.T) {
	for n := range 200 {
		if n != 64 {
			checkNoID(t, strings.Repeat("a", n))
		}
	}
}

// P1.1: any byte that is no digit, at any place, makes it no ID.
func TestParseOfOtherBytes(t *testing.T) {
	digits := strings.Repeat("7e", 32)
	for i := range digits {
		for value := range 256 {
			c := string([]byte{byte(value)})
			if !strings.Contains("0123456789abcdef", c) {
				checkNoID(t, digits[:i]+c+digits[i+1:])
			}
		}
	}
}

// P1.1: 64 bytes with runes of several bytes among them, whose low bytes look like digits, and 64 runes of more bytes.
func TestParseOfOtherRunes(t *testing.T) {
	for _, c := range []string{"\u0130", "\u0661", "\u0139", "\u0461", "\u4f31", "\U00010030", "\uff11", "\xff\xfe"} {
		rest := strings.Repeat("1", 64-len(c))
		checkNoID(t, c+rest)
		checkNoID(t, rest+c)
		checkNoID(t, rest[:20]+c+rest[20:])
		checkNoID(t, strings.Repeat(c, 64))
	}
}

// P1.2: Cmp orders IDs as their digits are ordered.
func TestCmp(t *testing.T) {
	r := rand.New(rand.NewPCG(5, 5))
	for range 5000 {
		var a api.ID
		copy(a[:], randomBytes(r, len(a)))
		b := a
		for range r.IntN(3) {
			b[r.IntN(len(b))] = byte(r.Uint32())
		}
		want := strings.Compare(Hex(a), Hex(b))
		if Cmp(a, b) != want || Cmp(b, a) != -want {
			t.Fatalf("Cmp(%v, %v) = %d and %d, not %d", a, b, Cmp(a, b), Cmp(b, a), want)
		}
	}
}

// P1.1: every byte counts, as a number without a sign, and an earlier one ahead of all later ones.
func TestCmpOfEachByte(t *testing.T) {
	for i := range len(api.ID{}) {
		for _, pair := range [][2]byte{{0, 1}, {127, 128}, {0, 255}, {254, 255}} {
			var less, more api.ID
			less[i], more[i] = pair[0], pair[1]
			for j := i + 1; j < len(less); j++ {
				less[j] = 255
			}
			if Cmp(less, more) != -1 || Cmp(more, less) != 1 || Cmp(less, less) != 0 {
				t.Errorf("Cmp(%v, %v) = %d and %d", less, more, Cmp(less, more), Cmp(more, less))
			}
		}
	}
}

// P1.1 and P1.3: the sum is computed in the first call of ID, and not again.
func TestNamed(t *testing.T) {
	for _, text := range []string{"", "abc", strings.Repeat("x", 1000)} {
		n := Of([]byte(text))
		if n.Sums() != 0 || string(n.Bytes()) != text || n.Sums() != 0 {
			t.Errorf("of %q: %d sums ahead of ID, bytes %q", text, n.Sums(), n.Bytes())
		}
		for range 3 {
			if n.ID() != Sum([]byte(text)) || n.Sums() != 1 || string(n.Bytes()) != text {
				t.Errorf("of %q: ID %v, %d sums, bytes %q", text, n.ID(), n.Sums(), n.Bytes())
			}
		}
	}
	if n := Of(nil); len(n.Bytes()) != 0 || n.ID() != Sum(nil) {
		t.Error("of nil")
	}
}

// P1.3: one Named counts its own sums only.
func TestNamedAreIndependent(t *testing.T) {
	a, b := Of([]byte("a")), Of([]byte("a"))
	Sum([]byte("a"))
	a.ID()
	if a.Sums() != 1 || b.Sums() != 0 {
		t.Errorf("%d and %d sums", a.Sums(), b.Sums())
	}
}

// P1.3: many goroutines use one Named at the same time, and each gets the finished sum.
func TestNamedInManyGoroutines(t *testing.T) {
	b := bytes.Repeat([]byte("pollard"), 3000)
	want := api.ID(sha256.Sum256(b))
	n := Of(b)
	var all sync.WaitGroup
	begin := make(chan struct{})
	for range 64 {
		all.Go(func() {
			<-begin
			if sums := n.Sums(); sums < 0 || sums > 1 {
				t.Errorf("%d sums", sums)
			}
			if n.ID() != want || n.Sums() != 1 || !bytes.Equal(n.Bytes(), b) {
				t.Error("another ID, other bytes, or not one sum")
			}
		})
	}
	close(begin)
	all.Wait()
	if n.Sums() != 1 {
		t.Errorf("%d sums", n.Sums())
	}
}

func overwrite(b []byte) {
	b = b[:cap(b)]
	for i := range b {
		b[i] ^= 255
	}
}

// P1.4: the bytes that were handed in may be overwritten, ahead of the first ID and behind it.
func TestNamedKeepsNoArgument(t *testing.T) {
	b := append(make([]byte, 0, 10), "abc"...)
	n := Of(b)
	overwrite(b)
	if string(n.Bytes()) != "abc" || n.ID() != Sum([]byte("abc")) {
		t.Error("the argument is retained")
	}
}

// P1.4: the bytes that were handed out may be overwritten, with their spare capacity.
func TestNamedHandsOutCopies(t *testing.T) {
	n := Of([]byte("abc"))
	first, second := n.Bytes(), n.Bytes()
	overwrite(first)
	if string(second) != "abc" || string(n.Bytes()) != "abc" || n.ID() != Sum([]byte("abc")) {
		t.Error("the results share memory")
	}
}

// P1.4: the argument is not modified, nor is the memory beyond its length.
func TestArgumentsAreNotModified(t *testing.T) {
	for n := range 2*blockSize + 1 {
		memory := bytes.Repeat([]byte{9}, n+2*blockSize)
		Sum(memory[:n])
		Of(memory[:n]).ID()
		if !bytes.Equal(memory, bytes.Repeat([]byte{9}, len(memory))) {
			t.Fatalf("Sum or Of of %d bytes has modified memory", n)
		}
	}
}

// P1.1: the same bytes have the same sum, wherever they lie and whatever spare capacity they have.
func TestSumHangsOnBytesAlone(t *testing.T) {
	memory := randomBytes(rand.New(rand.NewPCG(6, 6)), 400)
	for n := range 200 {
		for from := range 3 {
			b := memory[from : from+n]
			if Sum(b) != Sum(bytes.Clone(b)) || Sum(b) != Sum(b[:n:n]) {
				t.Fatalf("Sum of %d bytes from %d on", n, from)
			}
		}
	}
}
