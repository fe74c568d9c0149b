// Package code puts the encodings of layer 2 together: it collects them, and reads stamps and lists.
package code

import (
	"pollard/api"
	"pollard/enc"
)

// Writer collects encodings one behind the other. A function of enc copies the bytes that it follows, so that
// a long list would take time by the square of its length.
type Writer struct {
	out []byte
}

// Raw adds bytes as they are.
func (w *Writer) Raw(b ...byte) {
	w.out = append(w.out, b...)
}

// Nums adds numbers.
func (w *Writer) Nums(nums ...int64) {
	for _, n := range nums {
		w.Raw(enc.Num(nil, n)...)
	}
}

// Stamps adds stamps, each as its two numbers.
func (w *Writer) Stamps(stamps ...api.Stamp) {
	for _, s := range stamps {
		w.Nums(s.T, int64(s.R))
	}
}

// Text adds a text.
func (w *Writer) Text(s string) {
	w.Raw(enc.Text(nil, s)...)
}

// ID adds an ID.
func (w *Writer) ID(id api.ID) {
	w.Raw(id[:]...)
}

// Bytes returns what was collected; the writer isn't used any more.
func (w *Writer) Bytes() []byte {
	return w.out
}

// Stamp reads the two numbers of a stamp, up to its limits.
func Stamp(r *enc.Reader) api.Stamp {
	t := r.Num(api.MaxTime)
	return api.Stamp{T: t, R: int(r.Num(api.MaxReplica))}
}

// List reads a number, and as many elements, but none any more behind one that isn't there.
func List[T any](r *enc.Reader, most int64, element func(r *enc.Reader) T) []T {
	var list []T
	for n := r.Num(most); n > 0 && r.Good(); n-- {
		list = append(list, element(r))
	}
	return list
}
