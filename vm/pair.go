package vm

import (
	"math/bits"

	"capstan/api"
)

// pair is what a sign makes of two numbers, a beneath b.
func pair(sign byte, a, b int) (int, api.Errno) {
	more := 0
	switch sign {
	case Sub: // a less b is a and ^b and one more, which even the least b has
		b, more = ^b, 1
		fallthrough
	case Add:
		return sum(a, b, more)
	case Mul:
		return product(a, b)
	case Shl, Shr:
		return shift(sign, a, b)
	}
	return a & b, api.OK
}

// sum is a and b and more, which is 0 or 1.
func sum(a, b, more int) (int, api.Errno) {
	c := a + b + more
	if (a^c)&(b^c) < 0 { // its sign is neither a's nor b's
		return 0, api.ErrOver
	}
	return c, api.OK
}

func product(a, b int) (int, api.Errno) {
	high, low := bits.Mul64(uint64(a), uint64(b))
	// Taken without a sign, a number below 0 is 2^64 too much: that makes the other one too much in the high half.
	high -= uint64(a>>63)&uint64(b) + uint64(b>>63)&uint64(a)
	c := int(low)
	if int(high) != c>>63 {
		return 0, api.ErrOver
	}
	return c, api.OK
}

// shift shifts a by b bits; the language shifts bit by bit, however great b is.
func shift(sign byte, a, b int) (int, api.Errno) {
	if b < 0 {
		return 0, api.ErrArg
	}
	if sign == Shl {
		return a << b, api.OK
	}
	return a >> b, api.OK
}
