package sha

// size is how many bytes are mixed at once.
const size = 64

// block is bytes that are mixed at once.
type block [size]byte

// cut is the block that b begins with.
func cut(b []byte) (k block) {
	copy(k[:], b)
	return k
}

// closing lays out what stands behind the whole blocks of n bytes: the rest, a bit, noughts, how many bits they are.
// That number ends the first block, if there is room, and the second stays blank, which says that it is none.
// A second one that is needed is never blank: there is a rest then, so that the number isn't 0.
func closing(rest []byte, n int) (ends [2]block) {
	ends[0] = cut(rest)
	ends[0][len(rest)] = 128
	last := &ends[0]
	if len(rest) >= size-8 {
		last = &ends[1]
	}
	bits := uint64(n) * 8
	for i := range 8 {
		last[size-1-i] = byte(bits >> (8 * i))
	}
	return ends
}

// words are the block's bytes by fours, the highest ahead, and behind them what is made of those.
func (k block) words() (w [rounds]uint32) {
	for i := range size / 4 {
		for _, c := range k[4*i : 4*i+4] {
			w[i] = w[i]<<8 | uint32(c)
		}
	}
	for i := size / 4; i < rounds; i++ {
		w[i] = low1(w[i-2]) + w[i-7] + low0(w[i-15]) + w[i-16]
	}
	return w
}
