// Package enc is layer 2: it encodes numbers, texts and IDs as bytes, and computes a checksum.
package enc

import "pollard/api"

const (
	maxNum     = 1 << 62 // the greatest number
	maxNumSize = 9       // bytes of the greatest number
	groupBits  = 7       // bits of a number in one of its bytes
	moreFlag   = 1 << groupBits
	fourSize   = 4
	polynomial = 0xEDB88320
)

// Num returns b followed by a number, limited to what has an encoding.
func Num(b []byte, n int64) []byte {
	out := cloned(b, maxNumSize)
	n = min(max(n, 0), maxNum)
	for n >= moreFlag {
		out = append(out, byte(n&(moreFlag-1))|moreFlag)
		n >>= groupBits
	}
	return append(out, byte(n))
}

// Text returns b followed by a text.
func Text(b []byte, s string) []byte {
	size := Num(nil, int64(len(s)))
	out := append(cloned(b, len(size)+len(s)), size...)
	return append(out, s...)
}

// Id returns b followed by an ID.
func Id(b []byte, id api.ID) []byte {
	return append(cloned(b, len(id)), id[:]...)
}

// Four returns b followed by a number in four bytes, the least significant one first.
func Four(b []byte, u uint32) []byte {
	out := cloned(b, fourSize)
	for i := range fourSize {
		out = append(out, byte(u>>(8*i)))
	}
	return out
}

// cloned returns the same bytes in memory of their own, with room for some more.
func cloned(b []byte, more int) []byte {
	out := make([]byte, len(b), len(b)+more)
	copy(out, b)
	return out
}

// Reader reads bytes from the first one on, until it fails.
type Reader struct {
	rest   []byte // none, once it has failed
	failed bool
}

// Read returns a reader of bytes.
func Read(b []byte) *Reader {
	return &Reader{rest: cloned(b, 0)}
}

// Fail lets the reader fail.
func (r *Reader) Fail() {
	r.rest = nil
	r.failed = true
}

// Num reads a number from 0 to most.
func (r *Reader) Num(most int64) int64 {
	n, size := firstNum(r.rest)
	if size == 0 || n > most || n > maxNum {
		r.Fail()
		return 0
	}
	r.take(size)
	return n
}

// Text reads a text of at most most bytes.
func (r *Reader) Text(most int) string {
	return string(r.take(int(r.Num(int64(most)))))
}

// Id reads an ID.
func (r *Reader) Id() (id api.ID) {
	copy(id[:], r.take(len(id)))
	return id
}

// Four reads a number in four bytes, the least significant one first.
func (r *Reader) Four() uint32 {
	var u uint32
	for i, b := range r.take(fourSize) {
		u |= uint32(b) << (8 * i)
	}
	return u
}

// take cuts off the next bytes; without enough of them the reader fails, and there are none.
func (r *Reader) take(size int) []byte {
	if size > len(r.rest) {
		r.Fail()
		return nil
	}
	part := r.rest[:size:size]
	r.rest = r.rest[size:]
	return part
}

// firstNum returns the number at the start of bytes and the size of its encoding, or zeros if there is none. The number may be one above maxNum.
func firstNum(b []byte) (n int64, size int) {
	for i, c := range b[:min(len(b), maxNumSize)] {
		n |= int64(c&(moreFlag-1)) << (groupBits * i)
		if c >= moreFlag {
			continue
		}
		if c == 0 && i > 0 { // one byte less would do
			return 0, 0
		}
		return n, i + 1
	}
	return 0, 0
}

// Left returns how many bytes remain.
func (r *Reader) Left() int {
	return len(r.rest)
}

// Good reports whether the reader has not failed.
func (r *Reader) Good() bool {
	return !r.failed
}

// Done reports whether the reader has not failed and no bytes remain.
func (r *Reader) Done() bool {
	return !r.failed && len(r.rest) == 0
}

// Sum returns the checksum of bytes.
func Sum(b []byte) uint32 {
	register := ^uint32(0)
	for _, c := range b {
		// Eight bits at once: a bit of the byte meets the register's just when that one is shifted out.
		register ^= uint32(c)
		for range 8 {
			register = register>>1 ^ polynomial&-(register&1)
		}
	}
	return ^register
}
