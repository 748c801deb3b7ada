package code_test

import (
	"bytes"
	"math/big"
	"strings"
	"testing"

	"capstan/api"
	"capstan/code"
)

// numbers are both bounds of each length, of either sign, and what stands around them.
func numbers() []int {
	l := []int{0, 1<<63 - 1, -1 << 63}
	for k := range 63 {
		for d := -2; d <= 2; d++ {
			l = append(l, 1<<k+d, -1<<k+d)
		}
	}
	return l
}

// spelt writes a number as the chapter tells it, by numbers without bounds.
func spelt(n int) []byte {
	v := big.NewInt(int64(n))
	v.Mul(v, big.NewInt(2))
	if n < 0 {
		v.Sub(v.Neg(v), big.NewInt(1))
	}
	var b []byte
	seven := new(big.Int)
	for {
		v.DivMod(v, big.NewInt(128), seven)
		if v.Sign() == 0 {
			return append(b, byte(seven.Int64()))
		}
		b = append(b, byte(seven.Int64()+128))
	}
}

func sumOf(first, step byte) (h api.Hash) {
	for i := range h {
		h[i] = first + byte(i)*step
	}
	return h
}

func TestP101IntByHand(t *testing.T) {
	ff := strings.Repeat("\xff", 8)
	for n, want := range map[int]string{
		0: "\x00", -1: "\x01", 1: "\x02", -2: "\x03", 2: "\x04",
		63: "\x7e", -64: "\x7f", 64: "\x80\x01", -65: "\x81\x01",
		150: "\xac\x02", -700: "\xf7\x0a",
		8191: "\xfe\x7f", -8192: "\xff\x7f", 8192: "\x80\x80\x01", -8193: "\x81\x80\x01",
		1<<62 - 1: "\xfe" + ff[1:] + "\x7f", -1 << 62: "\xff" + ff[1:] + "\x7f",
		1 << 62: strings.Repeat("\x80", 9) + "\x01", 1<<63 - 1: "\xfe" + ff + "\x01", -1 << 63: "\xff" + ff + "\x01",
	} {
		if b := code.Int(nil, n); string(b) != want {
			t.Errorf("Int(nil, %d): %x, not %x", n, b, want)
		}
	}
}

func TestP101IntByItsRule(t *testing.T) {
	for _, n := range numbers() {
		if b := code.Int(nil, n); !bytes.Equal(b, spelt(n)) {
			t.Errorf("Int(nil, %d): %x, not %x", n, b, spelt(n))
		}
	}
}

func TestP101Text(t *testing.T) {
	for _, n := range []int{0, 1, 2, 63, 64, 127, 128, 8191, 8192, 65535, 65536, 1 << 20} {
		s := bytes.Repeat([]byte{0xfe, 0, 0x80}, n/3+1)[:n]
		if b := code.Text(nil, s); !bytes.Equal(b, append(spelt(n), s...)) {
			t.Errorf("Text of %d bytes: %d bytes, begun with %x", n, len(b), b[:min(len(b), 5)])
		}
	}
	if b := code.Text(nil, []byte("a\x00\xff\"")); string(b) != "\x08a\x00\xff\"" {
		t.Errorf("Text: %x", b)
	}
}

func TestP101Hash(t *testing.T) {
	for _, h := range []api.Hash{{}, {31: 255}, sumOf(1, 1), sumOf(200, 7)} {
		if b := code.Hash(nil, h); !bytes.Equal(b, h[:]) {
			t.Errorf("Hash: %x, not %x", b, h)
		}
	}
}

// writers are the calls that put something behind b, and what they put there.
func writers() map[string]struct {
	call func(b []byte) []byte
	puts string
} {
	h := sumOf(9, 3)
	return map[string]struct {
		call func(b []byte) []byte
		puts string
	}{
		"Int":        {func(b []byte) []byte { return code.Int(b, 64) }, "\x80\x01"},
		"Text":       {func(b []byte) []byte { return code.Text(b, []byte("hi")) }, "\x04hi"},
		"Text (nil)": {func(b []byte) []byte { return code.Text(b, nil) }, "\x00"},
		"Text ()":    {func(b []byte) []byte { return code.Text(b, []byte{}) }, "\x00"},
		"Hash":       {func(b []byte) []byte { return code.Hash(b, h) }, string(h[:])},
	}
}

func TestP101BehindWhatThereIs(t *testing.T) {
	for name, w := range writers() {
		for _, b := range [][]byte{nil, {}, make([]byte, 0, 99), []byte("ahead"), []byte("\x80\x80")} {
			if got := w.call(b); string(got) != string(b)+w.puts {
				t.Errorf("%s behind %x: %x", name, b, got)
			}
		}
	}
}

func TestP2WritersLeaveWhatTheyAreHanded(t *testing.T) {
	for name, w := range writers() {
		room := bytes.Repeat([]byte{7}, 200)
		b := room[:3]
		first, second := w.call(b), w.call(b)
		fill(first, 1)
		if !bytes.Equal(room, bytes.Repeat([]byte{7}, 200)) {
			t.Errorf("%s changes, or hands out, what it was handed", name)
		}
		if string(second) != "\x07\x07\x07"+w.puts {
			t.Errorf("%s: two answers share memory: %x", name, second)
		}
	}
	s := bytes.Repeat([]byte{7}, 200)
	fill(code.Text(nil, s[:3]), 1)
	fill(code.Text(s[:3], s[:5]), 1)
	if !bytes.Equal(s, bytes.Repeat([]byte{7}, 200)) {
		t.Error("Text changes, or hands out, the bytes that it was handed")
	}
	if b := code.Text(s[:1], s[1:3]); string(b) != "\x07\x04\x07\x07" {
		t.Errorf("Text of bytes behind those that it is put behind: %x", b)
	}
}

// fill writes over all of a list, its spare room too.
func fill(b []byte, with byte) {
	b = b[:cap(b)]
	for i := range b {
		b[i] = with
	}
}
