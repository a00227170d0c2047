// Package stamp is layer 2: see shared/doc/02-stamp.md.
package stamp

import (
	"bytes"
	"math/bits"
	"strings"

	"interleaf/api"
)

const (
	block  = 64 // bytes that are stirred in at once
	rounds = 64
	digits = "0123456789abcdef"
)

// sum is a state of a SHA-256.
type sum [8]uint32

// first is the sum ahead of all bytes: of the square roots of the first 8 primes, behind the point, 32 bits.
var first = sum{
	0x6a09e667, 0xbb67ae85, 0x3c6ef372, 0xa54ff53a, 0x510e527f, 0x9b05688c, 0x1f83d9ab, 0x5be0cd19,
}

// roots are those of the rounds: of the cube roots of the first 64 primes, behind the point, 32 bits.
var roots = [rounds]uint32{
	0x428a2f98, 0x71374491, 0xb5c0fbcf, 0xe9b5dba5, 0x3956c25b, 0x59f111f1, 0x923f82a4, 0xab1c5ed5,
	0xd807aa98, 0x12835b01, 0x243185be, 0x550c7dc3, 0x72be5d74, 0x80deb1fe, 0x9bdc06a7, 0xc19bf174,
	0xe49b69c1, 0xefbe4786, 0x0fc19dc6, 0x240ca1cc, 0x2de92c6f, 0x4a7484aa, 0x5cb0a9dc, 0x76f988da,
	0x983e5152, 0xa831c66d, 0xb00327c8, 0xbf597fc7, 0xc6e00bf3, 0xd5a79147, 0x06ca6351, 0x14292967,
	0x27b70a85, 0x2e1b2138, 0x4d2c6dfc, 0x53380d13, 0x650a7354, 0x766a0abb, 0x81c2c92e, 0x92722c85,
	0xa2bfe8a1, 0xa81a664b, 0xc24b8b70, 0xc76c51a3, 0xd192e819, 0xd6990624, 0xf40e3585, 0x106aa070,
	0x19a4c116, 0x1e376c08, 0x2748774c, 0x34b0bcb5, 0x391c0cb3, 0x4ed8aa4a, 0x5b9cca4f, 0x682e6ff3,
	0x748f82ee, 0x78a5636f, 0x84c87814, 0x8cc70208, 0x90befffa, 0xa4506ceb, 0xbef9a3f7, 0xc67178f2,
}

// Of is the SHA-256 of some bytes.
func Of(p []byte) api.Key {
	whole := len(p) - len(p)%block
	s := stirAll(first, p[:whole])
	return key(stirAll(s, last(p[whole:], len(p))))
}

// last is what is stirred in behind all whole blocks: the bytes that are left, a bit, noughts, and how many bits there were in all.
func last(left []byte, all int) []byte {
	p := append(bytes.Clone(left), 0x80)
	for len(p)%block != block-8 {
		p = append(p, 0)
	}
	n := uint64(all) * 8
	for shift := 56; shift >= 0; shift -= 8 {
		p = append(p, byte(n>>shift))
	}
	return p
}

func stirAll(s sum, p []byte) sum {
	for ; len(p) >= block; p = p[block:] {
		s = stir(s, spread(p[:block]))
	}
	return s
}

// spread makes a block the words of all rounds.
func spread(p []byte) [rounds]uint32 {
	var w [rounds]uint32
	for i := range 16 {
		w[i] = uint32(p[4*i])<<24 | uint32(p[4*i+1])<<16 | uint32(p[4*i+2])<<8 | uint32(p[4*i+3])
	}
	for i := 16; i < rounds; i++ {
		a, b := w[i-15], w[i-2]
		low := turn(a, 7) ^ turn(a, 18) ^ a>>3
		high := turn(b, 17) ^ turn(b, 19) ^ b>>10
		w[i] = w[i-16] + low + w[i-7] + high
	}
	return w
}

// stir is the sum behind a block, by the words of its rounds.
func stir(s sum, w [rounds]uint32) sum {
	a, b, c, d, e, f, g, h := s[0], s[1], s[2], s[3], s[4], s[5], s[6], s[7]
	for i := range rounds {
		choice := e&f ^ ^e&g
		most := a&b ^ a&c ^ b&c
		t := h + (turn(e, 6) ^ turn(e, 11) ^ turn(e, 25)) + choice + roots[i] + w[i]
		u := (turn(a, 2) ^ turn(a, 13) ^ turn(a, 22)) + most
		a, b, c, d, e, f, g, h = t+u, a, b, c, d+t, e, f, g
	}
	return sum{s[0] + a, s[1] + b, s[2] + c, s[3] + d, s[4] + e, s[5] + f, s[6] + g, s[7] + h}
}

// turn turns a word to the right.
func turn(w uint32, n int) uint32 {
	return bits.RotateLeft32(w, -n)
}

// key is a sum's bytes, the highest of each word first.
func key(s sum) api.Key {
	var k api.Key
	for i, w := range s {
		k[4*i], k[4*i+1], k[4*i+2], k[4*i+3] = byte(w>>24), byte(w>>16), byte(w>>8), byte(w)
	}
	return k
}

// Text tells a key in base 16.
func Text(k api.Key) string {
	p := make([]byte, 0, 2*len(k))
	for _, b := range k {
		p = append(p, digits[b>>4], digits[b&15])
	}
	return string(p)
}

// Read is the key of which Text tells s; false: it is none.
func Read(s string) (api.Key, bool) {
	var k api.Key
	if len(s) != 2*len(k) {
		return api.Key{}, false
	}
	for i := range k {
		high, low := strings.IndexByte(digits, s[2*i]), strings.IndexByte(digits, s[2*i+1])
		if high < 0 || low < 0 {
			return api.Key{}, false
		}
		k[i] = byte(high<<4 | low)
	}
	return k, true
}

// Less tells whether a stands ahead of b, byte by byte.
func Less(a, b api.Key) bool {
	return bytes.Compare(a[:], b[:]) < 0
}
