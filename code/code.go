// Package code: bytes. See doc/01-code.md.
package code

import (
	"capstan/api"
)

// more is a copy of b with room behind it: what is handed in stays as it is, its spare room too.
func more(b []byte, room int) []byte {
	c := make([]byte, len(b), len(b)+room)
	copy(c, b)
	return c
}

// Int is b with a number behind it.
func Int(b []byte, n int) []byte {
	return sevens(more(b, maxNumber), fold(n))
}

// Text is b with bytes behind it, ahead of them how many they are.
func Text(b []byte, s []byte) []byte {
	c := sevens(more(b, maxNumber+len(s)), fold(len(s)))
	return append(c, s...)
}

// Hash is b with a sum behind it.
func Hash(b []byte, h api.Hash) []byte {
	return append(more(b, len(h)), h[:]...)
}

// maxNumber is how many bytes the longest number has: 64 bits by sevens.
const maxNumber = 10

// fold makes a number one without a sign: numbers near 0, of either sign, stay short so.
func fold(n int) uint64 {
	if n < 0 {
		return uint64(^n)<<1 | 1 // ^n is -n - 1, which even the least n has
	}
	return uint64(n) << 1
}

// unfold turns fold round.
func unfold(u uint64) int {
	if u&1 == 1 {
		return ^int(u >> 1)
	}
	return int(u >> 1)
}

// sevens puts u behind b, which is the package's own.
func sevens(b []byte, u uint64) []byte {
	for u >= 128 {
		b = append(b, byte(u)|128)
		u >>= 7
	}
	return append(b, byte(u))
}
