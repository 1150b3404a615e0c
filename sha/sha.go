// Package sha is layer 2: digests of 32 bytes (SHA-256).
package sha

import "math/bits"

const (
	blockSize  = 64 // bytes that are mixed into the state at once
	digestSize = 32
	lengthAt   = 56 // where the number of bits stands in the last block
	digits     = "0123456789abcdef"
)

// squareRoots are the first 32 bits of the fractions of the square roots of the first eight primes.
var squareRoots = [8]uint32{
	0x6a09e667, 0xbb67ae85, 0x3c6ef372, 0xa54ff53a, 0x510e527f, 0x9b05688c, 0x1f83d9ab, 0x5be0cd19,
}

// cubeRoots are the first 32 bits of the fractions of the cube roots of the first 64 primes.
var cubeRoots = [64]uint32{
	0x428a2f98, 0x71374491, 0xb5c0fbcf, 0xe9b5dba5, 0x3956c25b, 0x59f111f1, 0x923f82a4, 0xab1c5ed5,
	0xd807aa98, 0x12835b01, 0x243185be, 0x550c7dc3, 0x72be5d74, 0x80deb1fe, 0x9bdc06a7, 0xc19bf174,
	0xe49b69c1, 0xefbe4786, 0x0fc19dc6, 0x240ca1cc, 0x2de92c6f, 0x4a7484aa, 0x5cb0a9dc, 0x76f988da,
	0x983e5152, 0xa831c66d, 0xb00327c8, 0xbf597fc7, 0xc6e00bf3, 0xd5a79147, 0x06ca6351, 0x14292967,
	0x27b70a85, 0x2e1b2138, 0x4d2c6dfc, 0x53380d13, 0x650a7354, 0x766a0abb, 0x81c2c92e, 0x92722c85,
	0xa2bfe8a1, 0xa81a664b, 0xc24b8b70, 0xc76c51a3, 0xd192e819, 0xd6990624, 0xf40e3585, 0x106aa070,
	0x19a4c116, 0x1e376c08, 0x2748774c, 0x34b0bcb5, 0x391c0cb3, 0x4ed8aa4a, 0x5b9cca4f, 0x682e6ff3,
	0x748f82ee, 0x78a5636f, 0x84c87814, 0x8cc70208, 0x90befffa, 0xa4506ceb, 0xbef9a3f7, 0xc67178f2,
}

// Hasher takes bytes piece by piece. It holds arrays, so that a copy of it stands alone.
type Hasher struct {
	state [8]uint32
	block [blockSize]byte // its first size % blockSize bytes aren't mixed in yet
	size  uint64          // of all bytes that were put
}

// Sum returns the digest of the parts, one behind the other.
func Sum(parts ...string) string {
	var h Hasher
	for _, s := range parts {
		h.Put(s)
	}
	return h.Sum()
}

// Put appends bytes.
func (h *Hasher) Put(s string) {
	if h == nil {
		return
	}
	h.begin()
	for s != "" {
		n := copy(h.block[h.size%blockSize:], s)
		s = s[n:]
		h.size += uint64(n)
		if h.size%blockSize == 0 {
			h.mix()
		}
	}
}

// Sum returns the digest of all bytes that were put.
func (h *Hasher) Sum() string {
	if h == nil {
		return ""
	}
	last := *h // more bytes may be put into h: the end is put to a copy
	last.begin()
	last.end()
	return bigEndian(last.state)
}

// begin sets the first state, which the zero value hasn't got.
func (h *Hasher) begin() {
	if h.size == 0 {
		h.state = squareRoots
	}
}

// end mixes in the bytes that are left, the mark behind them, and the number of bits.
func (h *Hasher) end() {
	used := int(h.size % blockSize)
	h.block[used] = 0x80
	clear(h.block[used+1:])
	if used >= lengthAt { // no room for the number: it gets a block of its own
		h.mix()
		clear(h.block[:])
	}
	for i := range blockSize - lengthAt {
		h.block[lengthAt+i] = byte(8 * h.size >> (56 - 8*i))
	}
	h.mix()
}

// mix mixes the block into the state.
func (h *Hasher) mix() {
	w := spread(&h.block)
	s := h.state
	a, b, c, d, e, f, g, last := s[0], s[1], s[2], s[3], s[4], s[5], s[6], s[7]
	for i := range w {
		t := last + three(e, 6, 11, 25) + (e&f ^ ^e&g) + cubeRoots[i] + w[i]
		u := three(a, 2, 13, 22) + (a&b ^ a&c ^ b&c)
		last, g, f, e = g, f, e, d+t
		d, c, b, a = c, b, a, t+u
	}
	for i, x := range [8]uint32{a, b, c, d, e, f, g, last} {
		h.state[i] += x
	}
}

// spread returns the 64 words that are made of a block's sixteen.
func spread(block *[blockSize]byte) [64]uint32 {
	var w [64]uint32
	for i := range 16 {
		for j := range 4 {
			w[i] = w[i]<<8 | uint32(block[4*i+j])
		}
	}
	for i := 16; i < len(w); i++ {
		x, y := w[i-15], w[i-2]
		w[i] = w[i-16] + (turn(x, 7) ^ turn(x, 18) ^ x>>3) + w[i-7] + (turn(y, 17) ^ turn(y, 19) ^ y>>10)
	}
	return w
}

// three returns three rotations of x, one xor the other.
func three(x uint32, i, j, k int) uint32 { return turn(x, i) ^ turn(x, j) ^ turn(x, k) }

// turn returns x rotated right by n bits.
func turn(x uint32, n int) uint32 { return bits.RotateLeft32(x, -n) }

// bigEndian returns the bytes of words, the highest of each first.
func bigEndian(words [8]uint32) string {
	var b [digestSize]byte
	for i, w := range words {
		for j := range 4 {
			b[4*i+j] = byte(w >> (24 - 8*j))
		}
	}
	return string(b[:])
}

// Hex returns a digest's 64 digits; an empty text for what isn't one.
func Hex(digest string) string {
	if len(digest) != digestSize {
		return ""
	}
	var b [2 * digestSize]byte
	for i := range digestSize {
		b[2*i] = digits[digest[i]>>4]
		b[2*i+1] = digits[digest[i]&15]
	}
	return string(b[:])
}

// Parse returns the digest of 64 digits, and whether they are such digits.
func Parse(s string) (string, bool) {
	if len(s) != 2*digestSize {
		return "", false
	}
	var b [digestSize]byte
	for i := range b {
		high, low := digit(s[2*i]), digit(s[2*i+1])
		if high < 0 || low < 0 {
			return "", false
		}
		b[i] = byte(high<<4 | low)
	}
	return string(b[:]), true
}

// digit returns what a digit stands for; -1 if it is none.
func digit(c byte) int {
	switch {
	case '0' <= c && c <= '9':
		return int(c - '0')
	case 'a' <= c && c <= 'f':
		return int(c-'a') + 10
	}
	return -1
}
