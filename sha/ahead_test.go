package sha_test

import (
	"bytes"
	"crypto/sha256"
	"sync"
	"testing"

	"capstan/sha"
)

func TestP2SumLeavesWhatItIsHanded(t *testing.T) {
	for _, n := range []int{0, 3, 55, 56, 63, 64, 65, 119, 120, 128, 130} {
		all := text(n+200, n)
		kept := bytes.Clone(all)
		if sha.Sum(all[:n]) != sha.Sum(all[:n:n]) {
			t.Errorf("%d bytes: spare room is told", n)
		}
		if !bytes.Equal(all, kept) {
			t.Errorf("%d bytes: they, or their spare room, are not as they were", n)
		}
	}
}

func TestP2WhatIsHandedInIsNotKept(t *testing.T) {
	b := text(100, 1)
	h := sha.Sum(b)
	for i := range b {
		b[i] = 0
	}
	if h != sha256.Sum256(text(100, 1)) || sha.Sum(text(100, 1)) != h || sha.Sum(b) != sha256.Sum256(b) {
		t.Error("a sum hangs on what its bytes became")
	}
}

// TestP202 sums texts in unlike orders, each of them behind each.
func TestP202(t *testing.T) {
	lengths := []int{0, 1, 55, 56, 64, 65, 120, 200}
	for _, first := range lengths {
		for _, second := range lengths {
			a, b := text(first, 3), text(second, 9)
			sha.Sum(a)
			if sha.Sum(b) != sha256.Sum256(b) {
				t.Errorf("%d bytes behind %d", second, first)
			}
			sha.Two(sha.Sum(a), sha.Sum(b))
			sha.Hex(sha.Sum(b))
			if sha.Sum(a) != sha256.Sum256(a) || sha.Sum(a) != sha.Sum(a) {
				t.Errorf("%d bytes behind %d and a pair", first, second)
			}
		}
	}
}

func TestP202SideBySide(t *testing.T) {
	var all sync.WaitGroup
	for k := range 8 {
		all.Go(func() {
			for n := range 200 {
				b := text(n, k)
				if h := sha.Sum(b); h != sha256.Sum256(b) {
					t.Errorf("%d bytes: %x", n, h)
				}
			}
		})
	}
	all.Wait()
}
