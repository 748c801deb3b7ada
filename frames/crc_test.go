package frames_test

import (
	"bytes"
	"hash/crc32"
	"math/rand/v2"
	"testing"

	"capstan/frames"
)

// some is n bytes of many values, others for each seed.
func some(n, seed int) []byte {
	b := make([]byte, n)
	rand.NewChaCha8([32]byte{byte(seed), byte(seed >> 8)}).Read(b)
	return b
}

func TestP301CrcByHand(t *testing.T) {
	for in, want := range map[string]uint32{
		"":          0,
		"\x00":      0xd202ef8d,
		"a":         0xe8b7be43,
		"abc":       0x352441c2,
		"123456789": 0xcbf43926,
		"The quick brown fox jumps over the lazy dog": 0x414fa339,
		"\x00\x00\x00\x00": 0x2144df1c,
		"\xff\xff\xff\xff": 0xffffffff,
	} {
		if c := frames.Crc([]byte(in)); c != want {
			t.Errorf("%q: %08x, not %08x", in, c, want)
		}
	}
	if frames.Crc(nil) != frames.Crc([]byte{}) {
		t.Error("P2: no list and an empty one are the same")
	}
}

func TestP301CrcIsTheLibrarys(t *testing.T) {
	for c := range 256 {
		for _, b := range [][]byte{{byte(c)}, {byte(c), 0}, {0, byte(c)}, {255, 255, 255, 255, byte(c)}} {
			if got := frames.Crc(b); got != crc32.ChecksumIEEE(b) {
				t.Fatalf("%x: %08x", b, got)
			}
		}
	}
	for n := range 300 {
		for _, b := range [][]byte{some(n, n), make([]byte, n), bytes.Repeat([]byte{255}, n)} {
			if got := frames.Crc(b); got != crc32.ChecksumIEEE(b) {
				t.Fatalf("%d bytes: %08x", n, got)
			}
		}
	}
	for _, n := range []int{65535, 65536, 1<<22 + 1, 5 << 20} { // no bound is set on what is summed
		if b := some(n, 1); frames.Crc(b) != crc32.ChecksumIEEE(b) {
			t.Errorf("%d bytes: %08x", n, frames.Crc(b))
		}
	}
}

func TestP301CrcOfEachBit(t *testing.T) {
	b := some(40, 3)
	was := frames.Crc(b)
	for bit := range 8 * len(b) {
		b[bit/8] ^= 1 << (bit % 8)
		if c := frames.Crc(b); c == was || c != crc32.ChecksumIEEE(b) {
			t.Fatalf("bit %d: %08x", bit, c)
		}
		b[bit/8] ^= 1 << (bit % 8)
	}
}

func TestP2CrcLeavesWhatItIsHanded(t *testing.T) {
	all := some(100, 5)
	was := bytes.Clone(all)
	if c := frames.Crc(all[10:50]); c != frames.Crc(all[10:50:50]) || c != crc32.ChecksumIEEE(was[10:50]) {
		t.Errorf("spare room is told: %08x", c)
	}
	if !bytes.Equal(all, was) {
		t.Error("what was handed in is not as it was")
	}
}
