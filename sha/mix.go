package sha

import (
	"math/bits"

	"capstan/api"
)

// rounds is how many rounds a block is mixed by.
const rounds = 64

// sum is a sum on its way; its words are a to h of FIPS 180-4, in their order.
type sum [8]uint32

// start is the sum of nothing yet: of the first eight primes' square roots the first 32 bits behind the point.
var start = sum{
	0x6a09e667, 0xbb67ae85, 0x3c6ef372, 0xa54ff53a, 0x510e527f, 0x9b05688c, 0x1f83d9ab, 0x5be0cd19,
}

// salts are, a word a round, of the first 64 primes' cube roots the first 32 bits behind the point.
var salts = [rounds]uint32{
	0x428a2f98, 0x71374491, 0xb5c0fbcf, 0xe9b5dba5, 0x3956c25b, 0x59f111f1, 0x923f82a4, 0xab1c5ed5,
	0xd807aa98, 0x12835b01, 0x243185be, 0x550c7dc3, 0x72be5d74, 0x80deb1fe, 0x9bdc06a7, 0xc19bf174,
	0xe49b69c1, 0xefbe4786, 0x0fc19dc6, 0x240ca1cc, 0x2de92c6f, 0x4a7484aa, 0x5cb0a9dc, 0x76f988da,
	0x983e5152, 0xa831c66d, 0xb00327c8, 0xbf597fc7, 0xc6e00bf3, 0xd5a79147, 0x06ca6351, 0x14292967,
	0x27b70a85, 0x2e1b2138, 0x4d2c6dfc, 0x53380d13, 0x650a7354, 0x766a0abb, 0x81c2c92e, 0x92722c85,
	0xa2bfe8a1, 0xa81a664b, 0xc24b8b70, 0xc76c51a3, 0xd192e819, 0xd6990624, 0xf40e3585, 0x106aa070,
	0x19a4c116, 0x1e376c08, 0x2748774c, 0x34b0bcb5, 0x391c0cb3, 0x4ed8aa4a, 0x5b9cca4f, 0x682e6ff3,
	0x748f82ee, 0x78a5636f, 0x84c87814, 0x8cc70208, 0x90befffa, 0xa4506ceb, 0xbef9a3f7, 0xc67178f2,
}

// mixed is s with one more block in it.
func (s sum) mixed(k block) sum {
	a, b, c, d, e, f, g, h := s[0], s[1], s[2], s[3], s[4], s[5], s[6], s[7]
	w := k.words()
	for i := range rounds {
		one := h + high1(e) + choice(e, f, g) + salts[i] + w[i]
		two := high0(a) + most(a, b, c)
		a, b, c, d, e, f, g, h = one+two, a, b, c, d+one, e, f, g
	}
	for i, x := range (sum{a, b, c, d, e, f, g, h}) {
		s[i] += x
	}
	return s
}

// bytes are the words' bytes, the highest ahead.
func (s sum) bytes() (h api.Hash) {
	for i := range h {
		h[i] = byte(s[i/4] >> (24 - 8*(i%4)))
	}
	return h
}

// choice takes each bit of y, where x has one, of z elsewhere.
func choice(x, y, z uint32) uint32 { return x&y ^ ^x&z }

// most has each bit that two of the three have.
func most(x, y, z uint32) uint32 { return x&y ^ x&z ^ y&z }

// high0 and high1 stir the words that are mixed, low0 and low1 those of a block.
func high0(x uint32) uint32 { return right(x, 2) ^ right(x, 13) ^ right(x, 22) }
func high1(x uint32) uint32 { return right(x, 6) ^ right(x, 11) ^ right(x, 25) }
func low0(x uint32) uint32  { return right(x, 7) ^ right(x, 18) ^ x>>3 }
func low1(x uint32) uint32  { return right(x, 17) ^ right(x, 19) ^ x>>10 }

// right turns x round to the right.
func right(x uint32, n int) uint32 { return bits.RotateLeft32(x, -n) }
