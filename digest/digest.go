// Package digest computes SHA-256 hash values, and those of the leaves and inner nodes of hash trees. See shared/doc/01-digest.md.
package digest

import (
	"math/bits"
	"slices"
	"strings"

	"rollbook/api"
)

// blockSize is the number of bytes of a block.
const blockSize = 64

// digits are the hexadecimal digits, in the order of their values.
const digits = "0123456789abcdef"

// initial are the constants H0 to H7.
var initial = [8]uint32{
	0x6a09e667, 0xbb67ae85, 0x3c6ef372, 0xa54ff53a, 0x510e527f, 0x9b05688c, 0x1f83d9ab, 0x5be0cd19,
}

// rounds are the constants K0 to K63.
var rounds = [64]uint32{
	0x428a2f98, 0x71374491, 0xb5c0fbcf, 0xe9b5dba5, 0x3956c25b, 0x59f111f1, 0x923f82a4, 0xab1c5ed5,
	0xd807aa98, 0x12835b01, 0x243185be, 0x550c7dc3, 0x72be5d74, 0x80deb1fe, 0x9bdc06a7, 0xc19bf174,
	0xe49b69c1, 0xefbe4786, 0x0fc19dc6, 0x240ca1cc, 0x2de92c6f, 0x4a7484aa, 0x5cb0a9dc, 0x76f988da,
	0x983e5152, 0xa831c66d, 0xb00327c8, 0xbf597fc7, 0xc6e00bf3, 0xd5a79147, 0x06ca6351, 0x14292967,
	0x27b70a85, 0x2e1b2138, 0x4d2c6dfc, 0x53380d13, 0x650a7354, 0x766a0abb, 0x81c2c92e, 0x92722c85,
	0xa2bfe8a1, 0xa81a664b, 0xc24b8b70, 0xc76c51a3, 0xd192e819, 0xd6990624, 0xf40e3585, 0x106aa070,
	0x19a4c116, 0x1e376c08, 0x2748774c, 0x34b0bcb5, 0x391c0cb3, 0x4ed8aa4a, 0x5b9cca4f, 0x682e6ff3,
	0x748f82ee, 0x78a5636f, 0x84c87814, 0x8cc70208, 0x90befffa, 0xa4506ceb, 0xbef9a3f7, 0xc67178f2,
}

// New returns the state of a hash computation without bytes.
func New() api.Digest { return api.Digest{H: initial} }

// Write returns the state after further bytes.
func Write(d api.Digest, b []byte) api.Digest {
	// Only the bytes that complete the tail are copied: b may be long.
	fill := min(len(b), padTo(len(d.Tail), 0))
	h, begun := absorb(d.H, slices.Concat(d.Tail, b[:fill]))
	h, rest := absorb(h, b[fill:])
	return api.Digest{H: h, Tail: slices.Concat(begun, rest), Len: d.Len + len(b)}
}

// Close returns the hash value of all bytes so far.
func Close(d api.Digest) api.Hash {
	return joinWords(Write(d, padding(d.Len)).H)
}

// Sum returns the hash value of a byte slice.
func Sum(b []byte) api.Hash { return Close(Write(New(), b)) }

// Leaf returns the hash value of a byte 0 followed by b.
func Leaf(b []byte) api.Hash {
	return Close(Write(Write(New(), []byte{0}), b))
}

// Node returns the hash value of a byte 1 followed by the bytes of a and of b.
func Node(a, b api.Hash) api.Hash {
	return Sum(slices.Concat([]byte{1}, a[:], b[:]))
}

// Hex returns the 64 hexadecimal digits of a hash value.
func Hex(h api.Hash) string {
	text := make([]byte, 0, 2*len(h))
	for _, b := range h {
		text = append(text, digits[b>>4], digits[b&15])
	}
	return string(text)
}

// Parse returns the hash value with some hexadecimal digits.
func Parse(s string) (api.Hash, api.Errno) {
	var h api.Hash
	if len(s) != 2*len(h) {
		return api.Hash{}, api.ErrForm
	}
	for i := range h {
		high, low := strings.IndexByte(digits, s[2*i]), strings.IndexByte(digits, s[2*i+1])
		if high < 0 || low < 0 {
			return api.Hash{}, api.ErrForm
		}
		h[i] = byte(high<<4 | low)
	}
	return h, api.OK
}

// padTo returns how many bytes must follow n bytes to make their number residue modulo the size of a block.
func padTo(n, residue int) int {
	return (blockSize + residue - n%blockSize) % blockSize
}

// padding returns what follows n bytes: a byte 128, zero bytes, and the number of bits.
func padding(n int) []byte {
	end := make([]byte, 1+padTo(n+1, blockSize-8), blockSize+8)
	end[0] = 128
	size := 8 * uint64(n)
	for shift := 56; shift >= 0; shift -= 8 {
		end = append(end, byte(size>>shift))
	}
	return end
}

// absorb returns the chaining values after all full blocks of b, and the bytes behind them, which share the memory of b.
func absorb(h [8]uint32, b []byte) ([8]uint32, []byte) {
	for len(b) >= blockSize {
		h = mix(h, splitWords([blockSize]byte(b)))
		b = b[blockSize:]
	}
	return h, b
}

// splitWords returns the words of a block.
func splitWords(b [blockSize]byte) [16]uint32 {
	var w [16]uint32
	for i := range w {
		w[i] = uint32(b[4*i])<<24 | uint32(b[4*i+1])<<16 | uint32(b[4*i+2])<<8 | uint32(b[4*i+3])
	}
	return w
}

// joinWords returns the bytes of the chaining values.
func joinWords(h [8]uint32) api.Hash {
	var b api.Hash
	for i, w := range h {
		b[4*i], b[4*i+1], b[4*i+2], b[4*i+3] = byte(w>>24), byte(w>>16), byte(w>>8), byte(w)
	}
	return b
}

// mix returns the chaining values after a block.
func mix(start [8]uint32, block [16]uint32) [8]uint32 {
	w := schedule(block)
	a, b, c, d, e, f, g, h := start[0], start[1], start[2], start[3], start[4], start[5], start[6], start[7]
	for t := range rounds {
		t1 := h + (rot(e, 6) ^ rot(e, 11) ^ rot(e, 25)) + ((e & f) ^ (^e & g)) + rounds[t] + w[t]
		t2 := (rot(a, 2) ^ rot(a, 13) ^ rot(a, 22)) + ((a & b) ^ (a & c) ^ (b & c))
		a, b, c, d, e, f, g, h = t1+t2, a, b, c, d+t1, e, f, g
	}
	for i, x := range [8]uint32{a, b, c, d, e, f, g, h} {
		start[i] += x
	}
	return start
}

// schedule returns W0 to W63 for a block.
func schedule(block [16]uint32) [64]uint32 {
	var w [64]uint32
	copy(w[:], block[:])
	for t := 16; t < len(w); t++ {
		x, y := w[t-15], w[t-2]
		w[t] = w[t-16] + (rot(x, 7) ^ rot(x, 18) ^ x>>3) + w[t-7] + (rot(y, 17) ^ rot(y, 19) ^ y>>10)
	}
	return w
}

// rot returns a word rotated to the right.
func rot(x uint32, n int) uint32 { return bits.RotateLeft32(x, -n) }
