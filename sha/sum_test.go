package sha_test

import (
	"bytes"
	"crypto/sha256"
	"encoding/hex"
	"strings"
	"testing"

	"capstan/api"
	"capstan/sha"
)

// text is n bytes of many values, begun at another one for each seed.
func text(n, seed int) []byte {
	b := make([]byte, n)
	for i := range b {
		b[i] = byte(i*7 + i>>8*13 + seed)
	}
	return b
}

func TestP201SumByHand(t *testing.T) {
	for in, want := range map[string]string{
		"":    "e3b0c44298fc1c149afbf4c8996fb92427ae41e4649b934ca495991b7852b855",
		"abc": "ba7816bf8f01cfea414140de5dae2223b00361a396177a9cb410ff61f20015ad",
		"abcdbcdecdefdefgefghfghighijhijkijkljklmklmnlmnomnopnopq": "248d6a61d20638b8e5c026930c3e6039a33ce45964ff2167f6ecedd419db06c1",
		"abcdefghbcdefghicdefghijdefghijkefghijklfghijklmghijklmn" +
			"hijklmnoijklmnopjklmnopqklmnopqrlmnopqrsmnopqrstnopqrstu": "cf5b16a778af8380036ce59e7b0492370b249b11e8f07a51afac45037afee9d1",
		strings.Repeat("a", 1000000): "cdc76e5c9914fb9281a1c7e284d73e67f1809a48a497200e046d39ccc7112cd0",
	} {
		if s := sha.Hex(sha.Sum([]byte(in))); s != want {
			t.Errorf("%d bytes: %s, not %s", len(in), s, want)
		}
	}
	if sha.Sum(nil) != sha.Sum([]byte{}) {
		t.Error("P2: no list and an empty one are the same")
	}
}

func TestP201SumOfEachLength(t *testing.T) {
	for n := range 4*64 + 2 { // each place of the number of bits, behind up to four whole blocks
		for _, b := range [][]byte{text(n, n), bytes.Repeat([]byte{0}, n), bytes.Repeat([]byte{255}, n)} {
			if h := sha.Sum(b); h != sha256.Sum256(b) {
				t.Fatalf("%d bytes: %x", n, h)
			}
		}
	}
	for _, n := range []int{8191, 8192, 65535, 65536, 1<<21 - 1, 1 << 21, 1<<21 + 55, 1<<21 + 56, 5<<20 + 3} {
		b := text(n, 1)
		if h := sha.Sum(b); h != sha256.Sum256(b) {
			t.Errorf("%d bytes: %x", n, h)
		}
	}
}

func TestP201SumOfEachBit(t *testing.T) {
	for _, n := range []int{1, 55, 56, 64, 65, 120} {
		b := make([]byte, n)
		for bit := range 8 * n {
			b[bit/8] = 1 << (bit % 8)
			if h := sha.Sum(b); h != sha256.Sum256(b) {
				t.Fatalf("%d bytes, bit %d: %x", n, bit, h)
			}
			b[bit/8] = 0
		}
	}
}

func TestP201Two(t *testing.T) {
	if s := sha.Hex(sha.Two(api.Hash{}, api.Hash{})); s != hex.EncodeToString(sumOf("\x01"+strings.Repeat("\x00", 64))) {
		t.Errorf("of noughts: %s", s)
	}
	for i := range 300 {
		a, b := api.Hash(text(32, i)), api.Hash(text(32, 3*i+1))
		if h := sha.Two(a, b); h != api.Hash(sumOf("\x01"+string(a[:])+string(b[:]))) {
			t.Fatalf("the %d-th: %x", i, h)
		}
		if sha.Two(a, b) == sha.Two(b, a) {
			t.Fatalf("the %d-th: the order is told", i)
		}
		if sha.Two(a, a) == sha.Two(a, b) || sha.Two(a, b) == sha.Sum(append(a[:], b[:]...)) {
			t.Fatalf("the %d-th: another one's", i)
		}
	}
}

// sumOf is the library's.
func sumOf(s string) []byte {
	h := sha256.Sum256([]byte(s))
	return h[:]
}

func TestP201Hex(t *testing.T) {
	for c := range 256 {
		for at := range 32 {
			h := api.Hash(text(32, c))
			h[at] = byte(c)
			if s := sha.Hex(h); s != hex.EncodeToString(h[:]) {
				t.Fatalf("%x: %s", h[:], s)
			}
		}
	}
	if s := sha.Hex(api.Hash{}); s != strings.Repeat("0", 64) {
		t.Errorf("of noughts: %s", s)
	}
	if s := sha.Hex(api.Hash{0: 0xab, 31: 0x9f}); s != "ab"+strings.Repeat("0", 60)+"9f" {
		t.Errorf("the first byte's digits stand first: %s", s)
	}
}

func FuzzP201(f *testing.F) {
	f.Add([]byte(nil))
	f.Add([]byte("abc"))
	f.Add(text(55, 0))
	f.Add(text(56, 0))
	f.Add(text(200, 5))
	f.Fuzz(func(t *testing.T, b []byte) {
		if h := sha.Sum(b); h != sha256.Sum256(b) {
			t.Errorf("%x: %x", b, h)
		}
	})
}
