// Package digest computes digests of strings: see shared/doc/01-digest.md.
package digest

import (
	"math/bits"

	"archivum/api"
	"archivum/hex"
)

// blockSize is how many bytes are taken in between two permutations.
const blockSize = 136

// roundConstants has one constant for each round.
var roundConstants = [24]uint64{
	0x0000000000000001, 0x0000000000008082, 0x800000000000808a, 0x8000000080008000,
	0x000000000000808b, 0x0000000080000001, 0x8000000080008081, 0x8000000000008009,
	0x000000000000008a, 0x0000000000000088, 0x0000000080008009, 0x000000008000000a,
	0x000000008000808b, 0x800000000000008b, 0x8000000000008089, 0x8000000000008003,
	0x8000000000008002, 0x8000000000000080, 0x000000000000800a, 0x800000008000000a,
	0x8000000080008081, 0x8000000000008080, 0x0000000080000001, 0x8000000080008008,
}

// rotations has the same order as a state: x + 5 y.
var rotations = [25]int{
	0, 1, 62, 28, 27,
	36, 44, 6, 55, 20,
	3, 10, 43, 25, 39,
	41, 45, 15, 21, 8,
	18, 2, 61, 56, 14,
}

// Permute permutes a state of 25 words.
func Permute(s [25]uint64) [25]uint64 {
	for i := range len(roundConstants) {
		s = combineRows(rotateWords(mixColumns(s)))
		s[0] ^= roundConstants[i]
	}
	return s
}

// mixColumns is step 1 of a round.
func mixColumns(a [25]uint64) [25]uint64 {
	var c [5]uint64
	for x := range 5 {
		c[x] = a[x] ^ a[x+5] ^ a[x+10] ^ a[x+15] ^ a[x+20]
	}
	for x := range 5 {
		d := c[(x+4)%5] ^ bits.RotateLeft64(c[(x+1)%5], 1)
		for y := range 5 {
			a[x+5*y] ^= d
		}
	}
	return a
}

// rotateWords is step 2 of a round.
func rotateWords(a [25]uint64) [25]uint64 {
	var b [25]uint64
	for y := range 5 {
		for x := range 5 {
			b[y+5*((2*x+3*y)%5)] = bits.RotateLeft64(a[x+5*y], rotations[x+5*y])
		}
	}
	return b
}

// combineRows is step 3 of a round.
func combineRows(b [25]uint64) [25]uint64 {
	var a [25]uint64
	for y := range 5 {
		for x := range 5 {
			a[x+5*y] = b[x+5*y] ^ (^b[(x+1)%5+5*y] & b[(x+2)%5+5*y])
		}
	}
	return a
}

// Sum returns the digest of a string.
func Sum(data string) string {
	h := New()
	h.Write(data)
	return h.Sum()
}

// Hex returns the text of a digest.
func Hex(digest string) (string, api.Errno) {
	if len(digest) != api.DigestSize {
		return "", api.ErrArg
	}
	return hex.Format(digest), api.OK
}

// Parse returns the digest with a text.
func Parse(text string) (string, api.Errno) {
	digest, ok := hex.Parse(text)
	if !ok || len(digest) != api.DigestSize {
		return "", api.ErrSyntax
	}
	return digest, api.OK
}

// Hash takes in strings. The bytes of an unfinished block are in the state already, since a block is only exclusive-ored with it.
type Hash struct {
	state [25]uint64
	taken int
}

// New returns a hash that has taken in nothing.
func New() *Hash { return &Hash{} }

// Write takes in strings.
func (h *Hash) Write(parts ...string) int {
	for _, part := range parts {
		for i := range len(part) {
			h.take(part[i])
		}
	}
	return h.taken
}

func (h *Hash) take(b byte) {
	h.flip(h.taken%blockSize, b)
	h.taken++
	if h.taken%blockSize == 0 {
		h.state = Permute(h.state)
	}
}

// flip exclusive-ors a byte of the state with b.
func (h *Hash) flip(at int, b byte) {
	h.state[at/8] ^= uint64(b) << (at % 8 * 8)
}

// Sum returns the digest of what the hash has taken in. The end is appended to a copy, since more can be written afterwards.
func (h *Hash) Sum() string {
	end := h.Clone()
	end.flip(end.taken%blockSize, 0x06)
	end.flip(blockSize-1, 0x80)
	s := Permute(end.state)
	var data [api.DigestSize]byte
	for i := range data {
		data[i] = byte(s[i/8] >> (i % 8 * 8))
	}
	return string(data[:])
}

// Clone returns an independent copy.
func (h *Hash) Clone() *Hash {
	c := *h
	return &c
}
