package delta

import (
	"bytes"
	"math"
	"math/rand/v2"
	"slices"
	"strings"
	"testing"

	"pollard/api"
	"pollard/enc"
)

const most = 1 << 20 // bytes that a delta can output

// build puts a delta together: numbers as layer 2 encodes them, and texts as they are.
func build(parts ...any) []byte {
	var b []byte
	for _, part := range parts {
		switch x := part.(type) {
		case int:
			b = append(b, enc.Num(nil, int64(x))...)
		case string:
			b = append(b, x...)
		}
	}
	return b
}

func apply(t *testing.T, base string, delta []byte, want string) {
	t.Helper()
	out, err := Apply([]byte(base), delta)
	if err != api.OK || string(out) != want {
		t.Fatalf("Apply of %v answers %.50q, %d, not %.50q", delta[:min(20, len(delta))], out, err, want)
	}
}

// applyFails fails the test unless Apply answers an error, and no bytes beside it.
func applyFails(t *testing.T, base string, delta []byte, want api.Errno) {
	t.Helper()
	out, err := Apply([]byte(base), delta)
	if err != want || out != nil {
		t.Fatalf("Apply of %v answers %.50q, %d, not %d", delta[:min(20, len(delta))], out, err, want)
	}
}

// P7.1: the example of the chapter.
func TestExample(t *testing.T) {
	apply(t, "abc", []byte{4, 4, 'x', 'y', 5, 1}, "xybc")
}

// P7.1: deltas of the right form.
func TestApply(t *testing.T) {
	long := strings.Repeat("0123456789", 30)
	for _, c := range []struct {
		base  string
		delta []byte
		want  string
	}{
		{"", build(0), ""},
		{"abc", build(0), ""},
		{"", build(1, 2, "x"), "x"},
		{"", build(3, 6, "\x00\xff\x80"), "\x00\xff\x80"},
		{"abc", build(1, 3, 0), "a"},
		{"abc", build(1, 3, 2), "c"},
		{"abc", build(3, 7, 0), "abc"},
		{"abc", build(2, 5, 1), "bc"},
		{"abc", build(9, 7, 0, 7, 0, 7, 0), "abcabcabc"},
		{"abc", build(5, 3, 2, 4, "--", 3, 1, 2, "!"), "c--b!"},
		{"abc", build(4, 2, "w", 2, "x", 2, "y", 2, "z"), "wxyz"},
		{long, build(300, 601, 0), long},
		{long, build(200, 401, 100), long[100:]},
		{"", build(300, 600, long), long},
	} {
		apply(t, c.base, c.delta, c.want)
	}
}

// P7.1: bytes that are not of the form.
func TestForm(t *testing.T) {
	for _, delta := range [][]byte{
		nil, {}, {128}, {128, 0}, {255, 255}, // no number
		build(most + 1), build(1 << 62), bytes.Repeat([]byte{255}, 12), // a length that is too great
		build(1), build(most), // no steps
		build(0, 0), build(0, 1), build(0, 1, 0), build(1, 0, 2, "x"), build(1, 2, "x", 0), build(1, 2, "x", 1, 0), // steps without bytes
		build(1, 2), build(2, 4, "x"), build(5, 8, "abc"), build(1, 1<<61), build(1, 1<<62), // literal bytes that are missing
		build(1, 3), build(1, 2, "x", 3), build(3, 7, "\x80"), // an offset that is missing
		build(1, "\x80"), build(1, "\x83\x00\x00"), build(1, "\x82\x00x"), build(1, 3, "\x80\x00"), // numbers with too many bytes
		build(1, "\xff\xff\xff\xff\xff\xff\xff\xff\x7f", 0), build(1, 3, "\xff\xff\xff\xff\xff\xff\xff\xff\xff\x01"), // and too great ones
		build(0, 2, "x"), build(2, 2, "x"), build(1, 4, "xy"), build(1, 5, 0), build(4, 7, 0), build(7, 7, 0, 7, 0), // other lengths
	} {
		applyFails(t, "abc", delta, api.ErrForm)
	}
}

// P7.1: a base without the bytes for a step.
func TestBase(t *testing.T) {
	for _, c := range []struct {
		base  string
		delta []byte
	}{
		{"", build(1, 3, 0)}, {"abc", build(1, 3, 3)}, {"abc", build(2, 5, 2)}, {"abc", build(4, 9, 0)}, {"abc", build(3, 7, 1)},
		{"abc", build(1, 3, 1<<62)}, {"abc", build(1, 3, math.MaxInt32)}, {"abc", build(1, 3, 1<<32)},
		{"abc", build(most, 2*most+1, 0)}, {"abc", build(most, 2*most+1, 1<<62)}, {"abc", build(4, 2, "x", 7, 1)},
	} {
		applyFails(t, c.base, c.delta, api.ErrBase)
	}
}

// P7.1: of the errors in a delta the first that is encountered is returned; a wrong length comes behind the last step.
func TestOrderOfErrors(t *testing.T) {
	for _, c := range []struct {
		delta []byte
		want  api.Errno
	}{
		{build(9, 3, 5, 0), api.ErrBase},
		{build(9, 0, 3, 5), api.ErrForm},
		{build(9, 3, 5, 3), api.ErrBase},
		{build(9, 3, "\x80"), api.ErrForm},
		{build(9, 9, 0), api.ErrBase},
		{build(9, 9), api.ErrForm},
		{build(9, 2, "x", 3, 5), api.ErrBase},
		{build(1, 4, "xy", 3, 5), api.ErrBase},
		{build(1, 7, 0, 3, 3), api.ErrBase},
		{build(most+1, 3, 5), api.ErrForm},
		{build(1, 2*(most+1)+1, 0), api.ErrForm},
		{build(1, 1<<62+1, 1<<62), api.ErrForm},
	} {
		applyFails(t, "abc", c.delta, c.want)
	}
}

// P7.1: an output of up to 2^20 bytes; one of more is detected in the step that would cause it.
func TestGreatestOutput(t *testing.T) {
	half := strings.Repeat("abcdefgh", most/16)
	apply(t, half, build(most, most+1, 0, most+1, 0), half+half)
	apply(t, "", build(most, 2*most, half, half), half+half)
	apply(t, half+half, build(most, 2*most+1, 0), half+half)
	apply(t, half, build(most, most+1, 0, most, half), half+half)
	for _, more := range [][]byte{build(3, 0), build(2, "x"), build(most+1, 0), build(3, most), build(2*most+1, most), build(3, 1<<62)} {
		applyFails(t, half, slices.Concat(build(most, most+1, 0, most+1, 0), more), api.ErrForm)
		applyFails(t, half, slices.Concat(build(most, most+1, 0, most+1, 0), more, build(3, most)), api.ErrForm)
	}
	applyFails(t, half, build(most, most+1, 0, most+1, 0, 3), api.ErrForm)
	applyFails(t, half, build(most, most+1, 0, most-1, half[1:], 3, most, 3, most), api.ErrBase)
	applyFails(t, half+half+"x", build(most, 2*(most+1)+1, 0), api.ErrForm)
	applyFails(t, "", build(most, 2*(most+1), half, half, "x"), api.ErrForm)
	applyFails(t, "", build(most+1, 2*most, half, half, 2, "x"), api.ErrForm)
}

// P7.1: a delta of very many short steps takes no more than some time for each.
func TestManySteps(t *testing.T) {
	literal := slices.Concat(build(most), bytes.Repeat(build(2, "x"), most))
	apply(t, "", literal, strings.Repeat("x", most))
	copied := slices.Concat(build(most), bytes.Repeat(build(3, 1), most))
	apply(t, "ab", copied, strings.Repeat("b", most))
}

// P7.1: what a delta says of its length.
func TestSize(t *testing.T) {
	for _, n := range []int{0, 1, 127, 128, 300, most - 1, most} {
		for _, more := range []string{"", "x", "\x80", "\x00\x01"} {
			if got, err := Size(build(n, more)); got != n || err != api.OK {
				t.Errorf("Size answers %d, %d, not %d", got, err, n)
			}
		}
	}
	for _, delta := range [][]byte{nil, {}, {128}, {128, 0}, {128, 128, 128}, build(most + 1), build(1 << 32), build(1 << 62), bytes.Repeat([]byte{255}, 12)} {
		if got, err := Size(delta); got != 0 || err != api.ErrForm {
			t.Errorf("Size of %v answers %d, %d", delta, got, err)
		}
	}
}

// slowNum reads a number another way: as the one whose encoding the bytes start with.
func slowNum(b []byte) (n int64, size int) {
	for i := 0; i < len(b) && i < 9; i++ {
		n |= int64(b[i]&127) << (7 * i)
		if b[i] < 128 {
			if !bytes.Equal(enc.Num(nil, n), b[:i+1]) {
				return 0, 0
			}
			return n, i + 1
		}
	}
	return 0, 0
}

// slowApply applies a delta byte by byte.
func slowApply(base, b []byte) ([]byte, api.Errno) {
	total, size := slowNum(b)
	if size == 0 || total > most {
		return nil, api.ErrForm
	}
	var out []byte
	for at := size; at < len(b); {
		n, size := slowNum(b[at:])
		if size == 0 || n < 2 {
			return nil, api.ErrForm
		}
		at += size
		source, from := b, int64(at)
		if n%2 == 1 {
			if from, size = slowNum(b[at:]); size == 0 {
				return nil, api.ErrForm
			}
			source = base
			at += size
		} else if n/2 > int64(len(b)-at) {
			return nil, api.ErrForm
		} else {
			at += int(n / 2)
		}
		if int64(len(out))+n/2 > most {
			return nil, api.ErrForm
		}
		for i := range n / 2 {
			if from+i >= int64(len(source)) {
				return nil, api.ErrBase
			}
			out = append(out, source[from+i])
		}
	}
	if int64(len(out)) != total {
		return nil, api.ErrForm
	}
	return out, api.OK
}

// P7.1: Apply of arbitrary bytes, most of which look like a delta.
func TestApplyOfAnyBytes(t *testing.T) {
	r := rand.New(rand.NewPCG(7, 1))
	answers := map[api.Errno]int{}
	for range 200_000 {
		base := randomBytes(r, r.IntN(6), 256)
		var steps []byte
		total := 0
		for range r.IntN(4) {
			n := r.IntN(8)
			steps = append(steps, enc.Num(nil, int64(n))...)
			total += n / 2
			if n%2 == 1 {
				steps = append(steps, enc.Num(nil, int64(r.IntN(5)))...)
			} else {
				steps = append(steps, randomBytes(r, n/2, 256)...)
			}
		}
		delta := append(build(total), steps...)
		for range r.IntN(3) {
			delta[r.IntN(len(delta))] = byte(r.IntN(256) >> r.IntN(8))
		}
		delta = delta[:len(delta)-r.IntN(2)*r.IntN(2)]
		want, wantErr := slowApply(base, delta)
		out, err := Apply(base, delta)
		if err != wantErr || !bytes.Equal(out, want) {
			t.Fatalf("Apply(%v, %v) answers %v, %d, not %v, %d", base, delta, out, err, want, wantErr)
		}
		answers[err]++
	}
	for _, err := range []api.Errno{api.OK, api.ErrForm, api.ErrBase} {
		if answers[err] < 1000 {
			t.Errorf("%d came only %d times", err, answers[err])
		}
	}
}

// randomBytes returns n bytes, each of which is one of some values.
func randomBytes(r *rand.Rand, n, values int) []byte {
	b := make([]byte, n)
	for i := range b {
		b[i] = byte(r.IntN(values))
	}
	return b
}

// made returns what Make returns, after it has passed the test: the output is the target, and the length is as promised.
func made(t *testing.T, base, target []byte) []byte {
	t.Helper()
	delta, err := Make(base, target)
	if err != api.OK {
		t.Fatalf("Make answers %d", err)
	}
	out, err := Apply(base, delta)
	if err != api.OK || !bytes.Equal(out, target) {
		t.Fatalf("of a base of %d bytes and a target of %d: %d, and an output of %d bytes", len(base), len(target), err, len(out))
	}
	if again, _ := slowApply(base, delta); !bytes.Equal(again, target) {
		t.Fatal("the output is another one when it is computed byte by byte")
	}
	if n, err := Size(delta); n != len(target) || err != api.OK {
		t.Fatalf("Size answers %d, %d", n, err)
	}
	if len(delta) > len(target)+16 {
		t.Fatalf("a target of %d bytes has a delta of %d", len(target), len(delta))
	}
	if bytes.Contains(base, target) && len(delta) > 16 {
		t.Fatalf("a target that the base contains has a delta of %d bytes", len(delta))
	}
	if again, _ := Make(bytes.Clone(base), bytes.Clone(target)); !bytes.Equal(again, delta) {
		t.Fatal("two deltas of the same bytes differ")
	}
	return delta
}

// P7.2: small bases and targets, all of them up to some length.
func TestMakeOfAllSmall(t *testing.T) {
	var all [][]byte
	for n := range 6 {
		for bits := range 1 << n {
			b := make([]byte, n)
			for i := range b {
				b[i] = byte(bits >> i & 1)
			}
			all = append(all, b)
		}
	}
	for _, base := range all {
		for _, target := range all {
			made(t, base, target)
		}
	}
	made(t, nil, nil)
}

// P7.1: a target of more than 2^20 bytes has no delta, whatever the base is.
func TestMakeLong(t *testing.T) {
	target := randomBytes(rand.New(rand.NewPCG(7, 2)), 2*most, 256)
	for _, base := range [][]byte{nil, target, target[:100]} {
		for _, n := range []int{most + 1, len(target)} {
			if delta, err := Make(base, target[:n]); err != api.ErrLong || delta != nil {
				t.Errorf("Make answers %d bytes, %d", len(delta), err)
			}
		}
		made(t, base, target[:most])
		made(t, base, target[most:])
	}
}

// P7.1: a target that the base contains, wherever it is, and however often others like it come before.
func TestMakeWhole(t *testing.T) {
	r := rand.New(rand.NewPCG(7, 3))
	for _, values := range []int{1, 2, 256} {
		base := randomBytes(r, 3000, values)
		for range 300 {
			from := r.IntN(len(base) + 1)
			made(t, base, base[from:from+r.IntN(len(base)-from+1)])
		}
		made(t, base, base)
		made(t, base, nil)
		made(t, base, base[len(base)-1:])
	}
	great := randomBytes(r, 3*most, 256)
	for _, from := range []int{0, 1, most - 1, most, 2*most - 1, 2 * most} {
		for _, n := range []int{0, 1, 15, 16, 17, 18, 1000, most - 1, most} {
			made(t, great, great[from:from+n])
		}
	}
	alike := bytes.Repeat([]byte("a"), most)
	made(t, append(bytes.Clone(alike), 'b'), append(bytes.Repeat([]byte("a"), most/2), 'b'))
}

// P7.2: random targets, which have more or less in common with their base.
func TestMakeRandom(t *testing.T) {
	r := rand.New(rand.NewPCG(7, 4))
	for range 3000 {
		values := 1 << r.IntN(9)
		base := randomBytes(r, r.IntN(300), values)
		var target []byte
		for range r.IntN(8) {
			if from := r.IntN(len(base) + 1); r.IntN(3) > 0 {
				target = append(target, base[from:from+r.IntN(len(base)-from+1)]...)
			} else {
				target = append(target, randomBytes(r, r.IntN(200), values)...)
			}
		}
		made(t, base, target)
	}
}

// P7.1: however many pieces of the base are in the target, and however far apart, the delta isn't longer than promised.
func TestMakeOfManyPieces(t *testing.T) {
	r := rand.New(rand.NewPCG(7, 5))
	for _, size := range []int{1000, 2 * most} {
		base := randomBytes(r, size, 256)
		for _, common := range []int{7, 8, 9, 16, 64} {
			for _, apart := range []int{0, 1, 63, 64, 8192} {
				var target []byte
				for len(target)+common+apart <= 50_000 {
					from := r.IntN(size-common) &^ 7 // where a piece can start
					target = append(target, base[from:from+common]...)
					target = append(target, randomBytes(r, apart, 256)...)
				}
				made(t, base, target)
			}
		}
	}
}

// P7.2: what base and target have in common is copied, so that a delta of like texts is short.
func TestMakeOfLikeTexts(t *testing.T) {
	r := rand.New(rand.NewPCG(7, 6))
	text := randomBytes(r, 4000, 256)
	for i, target := range [][]byte{
		slices.Concat(text, []byte("more")),
		slices.Concat([]byte("more"), text),
		slices.Concat(text[:1003], []byte("more"), text[1003:]),
		slices.Concat(text[:1003], text[1101:]),
		slices.Concat(text[2001:], text[:2001]),
		slices.Concat(text, text),
	} {
		if delta := made(t, text, target); len(delta) > 16 {
			t.Errorf("target %d, of %d bytes, has a delta of %d", i, len(target), len(delta))
		}
	}
}

// P7.2: bytes of which all pieces are alike.
func TestMakeOfAlikePieces(t *testing.T) {
	a, b := bytes.Repeat([]byte("a"), most-1), bytes.Repeat([]byte("b"), most-1)
	for _, base := range [][]byte{a, a[:10], slices.Concat(a, b), bytes.Repeat([]byte("ab"), most/2)} {
		for _, target := range [][]byte{append(bytes.Clone(a), 'x'), append([]byte("x"), a...), slices.Concat(b[:100], a[:100], b[:7], a[:9]), b} {
			made(t, base, target)
		}
	}
}

// P7.3: arguments are not modified, nor is the memory beyond them, and results are newly allocated.
func TestMemory(t *testing.T) {
	memory := []byte("the base of it; a target: the base of it, and of more; beyond")
	before := bytes.Clone(memory)
	base, target := memory[:14], memory[16:54]
	for _, target := range [][]byte{target, base, base[4:8], nil} {
		delta, _ := Make(base, target)
		size := len(delta)
		kept := append(bytes.Clone(delta), "beyond"...)
		out, err := Apply(base, kept[:size])
		if err != api.OK || !bytes.Equal(out, target) || !bytes.Equal(memory, before) {
			t.Fatal("an argument is modified")
		}
		if !bytes.Equal(kept[:size], delta) || string(kept[size:]) != "beyond" {
			t.Fatal("the delta is modified")
		}
		again, _ := Apply(base, kept[:size])
		second, _ := Make(base, target)
		overwrite(out)
		overwrite(delta)
		if !bytes.Equal(memory, before) || !bytes.Equal(again, target) || !bytes.Equal(second, kept[:size]) {
			t.Fatal("a result shares memory")
		}
	}
}

// P7.3: an output of one literal step is not a part of the delta, and one of one copy not a part of the base.
func TestOutputIsNew(t *testing.T) {
	base, delta := []byte("abc"), []byte{3, 6, 'x', 'y', 'z'}
	out, _ := Apply(base, delta)
	overwrite(out)
	copied, _ := Apply(base, []byte{3, 7, 0})
	overwrite(copied)
	if string(delta[2:]) != "xyz" || string(base) != "abc" {
		t.Error("the output shares memory with an argument")
	}
	target := []byte("xyz")
	made, _ := Make(nil, target)
	overwrite(made)
	if string(target) != "xyz" {
		t.Error("a delta shares memory with its target")
	}
}

func overwrite(b []byte) {
	b = b[:cap(b)]
	for i := range b {
		b[i] ^= 255
	}
}
