// Package sha is layer 1: it computes SHA-256 sums, which name bytes.
package sha

import (
	"bytes"
	"math/bits"
	"pollard/api"
	"sync"
	"sync/atomic"
)

const (
	blockSize  = 64 // bytes of a block
	lengthSize = 8  // bytes of the number of bits at the end of the last block
	endMark    = 128
	hexDigits  = "0123456789abcdef"
)

// keys are the constants of the rounds: of the cube roots of the first 64 primes, the first 32 bits behind the point.
var keys = [64]uint32{
	0x428a2f98, 0x71374491, 0xb5c0fbcf, 0xe9b5dba5, 0x3956c25b, 0x59f111f1, 0x923f82a4, 0xab1c5ed5,
	0xd807aa98, 0x12835b01, 0x243185be, 0x550c7dc3, 0x72be5d74, 0x80deb1fe, 0x9bdc06a7, 0xc19bf174,
	0xe49b69c1, 0xefbe4786, 0x0fc19dc6, 0x240ca1cc, 0x2de92c6f, 0x4a7484aa, 0x5cb0a9dc, 0x76f988da,
	0x983e5152, 0xa831c66d, 0xb00327c8, 0xbf597fc7, 0xc6e00bf3, 0xd5a79147, 0x06ca6351, 0x14292967,
	0x27b70a85, 0x2e1b2138, 0x4d2c6dfc, 0x53380d13, 0x650a7354, 0x766a0abb, 0x81c2c92e, 0x92722c85,
	0xa2bfe8a1, 0xa81a664b, 0xc24b8b70, 0xc76c51a3, 0xd192e819, 0xd6990624, 0xf40e3585, 0x106aa070,
	0x19a4c116, 0x1e376c08, 0x2748774c, 0x34b0bcb5, 0x391c0cb3, 0x4ed8aa4a, 0x5b9cca4f, 0x682e6ff3,
	0x748f82ee, 0x78a5636f, 0x84c87814, 0x8cc70208, 0x90befffa, 0xa4506ceb, 0xbef9a3f7, 0xc67178f2,
}

// Sum returns the SHA-256 sum of bytes.
func Sum(b []byte) api.ID {
	whole := len(b) - len(b)%blockSize
	state := addBlocks(startState(), b[:whole])
	return stateID(addBlocks(state, lastBlocks(b[whole:], len(b))))
}

// startState returns the state ahead of the first block: of the square roots of the first 8 primes, the first 32 bits behind the point.
func startState() [8]uint32 {
	return [8]uint32{
		0x6a09e667, 0xbb67ae85, 0x3c6ef372, 0xa54ff53a, 0x510e527f, 0x9b05688c, 0x1f83d9ab, 0x5be0cd19,
	}
}

// lastBlocks returns what follows the whole blocks of bytes: the rest of them, the mark, zero bytes and the number of bits.
func lastBlocks(rest []byte, size int) []byte {
	last := make([]byte, 0, 2*blockSize)
	last = append(last, rest...)
	last = append(last, endMark)
	for len(last)%blockSize != blockSize-lengthSize {
		last = append(last, 0)
	}
	bitCount := 8 * uint64(size)
	for i := range lengthSize {
		last = append(last, byte(bitCount>>(8*(lengthSize-1-i))))
	}
	return last
}

// addBlocks returns the state after some blocks, whose length is a multiple of blockSize.
func addBlocks(state [8]uint32, blocks []byte) [8]uint32 {
	for at := 0; at < len(blocks); at += blockSize {
		state = addBlock(state, blocks[at:at+blockSize])
	}
	return state
}

// addBlock returns the state after one more block.
func addBlock(state [8]uint32, block []byte) [8]uint32 {
	w := blockWords(block)
	s := state
	for i := range len(keys) {
		a, b, c := s[0], s[1], s[2]
		e, f, g, h := s[4], s[5], s[6], s[7]
		t1 := h + turned(e, 6, 11, 25) + (e&f ^ ^e&g) + keys[i] + w[i]
		t2 := turned(a, 2, 13, 22) + (a&b ^ a&c ^ b&c)
		copy(s[1:], s[:7])
		s[4] += t1 // the move has brought d here
		s[0] = t1 + t2
	}
	for i := range s {
		s[i] += state[i]
	}
	return s
}

// blockWords returns the words that a block gives to the rounds.
func blockWords(block []byte) [64]uint32 {
	var w [64]uint32
	for i := range 16 {
		w[i] = uint32(block[4*i])<<24 | uint32(block[4*i+1])<<16 | uint32(block[4*i+2])<<8 | uint32(block[4*i+3])
	}
	for i := 16; i < len(w); i++ {
		w[i] = shifted(w[i-2], 17, 19, 10) + w[i-7] + shifted(w[i-15], 7, 18, 3) + w[i-16]
	}
	return w
}

// turned returns the xor of three rotations to the right.
func turned(x uint32, i, j, k int) uint32 {
	return bits.RotateLeft32(x, -i) ^ bits.RotateLeft32(x, -j) ^ bits.RotateLeft32(x, -k)
}

// shifted returns the xor of two rotations and one shift to the right.
func shifted(x uint32, i, j, shift int) uint32 {
	return bits.RotateLeft32(x, -i) ^ bits.RotateLeft32(x, -j) ^ x>>shift
}

// stateID returns the bytes of a state, of each word the most significant one first.
func stateID(state [8]uint32) api.ID {
	var id api.ID
	for i, word := range state {
		for j := range 4 {
			id[4*i+j] = byte(word >> (8 * (3 - j)))
		}
	}
	return id
}

// Hex returns the 64 hexadecimal digits of an ID.
func Hex(id api.ID) string {
	var digits [2 * len(id)]byte
	for i, b := range id {
		digits[2*i] = hexDigits[b>>4]
		digits[2*i+1] = hexDigits[b&15]
	}
	return string(digits[:])
}

// Parse returns the ID of 64 hexadecimal digits, and whether the text is exactly that.
func Parse(s string) (api.ID, bool) {
	var id api.ID
	if len(s) != 2*len(id) {
		return api.ID{}, false
	}
	for i, r := range s {
		value, ok := digitValue(r)
		if !ok {
			return api.ID{}, false
		}
		id[i/2] = id[i/2]<<4 | value
	}
	return id, true
}

// digitValue returns the value of a hexadecimal digit, and whether it is one.
func digitValue(r rune) (byte, bool) {
	switch {
	case '0' <= r && r <= '9':
		return byte(r - '0'), true
	case 'a' <= r && r <= 'f':
		return byte(r-'a') + 10, true
	}
	return 0, false
}

// Cmp compares two IDs byte by byte.
func Cmp(a, b api.ID) int {
	return bytes.Compare(a[:], b[:])
}

// Named is bytes with their name, which is computed when it is first asked for.
type Named struct {
	data []byte
	once sync.Once
	id   api.ID
	sums atomic.Int64
}

// Of returns bytes with a name.
func Of(b []byte) *Named {
	return &Named{data: cloned(b)}
}

// ID returns the sum of the bytes.
func (n *Named) ID() api.ID {
	n.once.Do(func() {
		n.id = Sum(n.data)
		n.sums.Add(1)
	})
	return n.id
}

// Bytes returns the bytes.
func (n *Named) Bytes() []byte {
	return cloned(n.data)
}

// Sums returns how often the sum was computed.
func (n *Named) Sums() int64 {
	return n.sums.Load()
}

// cloned returns the same bytes in memory of their own.
func cloned(b []byte) []byte {
	out := make([]byte, len(b))
	copy(out, b)
	return out
}
