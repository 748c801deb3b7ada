package tree_test

import (
	"math/rand"
	"testing"

	"capstan/api"
	"capstan/tree"
)

func TestP701RootOfNone(t *testing.T) {
	if tree.Root(nil) != (api.Hash{}) || tree.Root(api.State{}) != (api.Hash{}) {
		t.Error("of no accounts: noughts")
	}
}

func TestP701RootByHand(t *testing.T) {
	for _, c := range []struct {
		s    api.State
		want string
	}{
		{api.State{{Id: 0, Balance: 1}}, "c238ebb5dcfbcadb37778738649b9b186409ee0ef15f5cba2ca196cc0680e206"},
		{api.State{{Id: 255, Balance: 1}}, "06d67ae0d236edfc7bec07f07e867e5d01f29435fcffd096a7ad94157c5b1c89"},
		{api.State{{Id: 6, Data: 1}, {Id: 7, Balance: 500, Nonce: 3, Data: -9}}, "f2bf431b024e7f1bcb54b6149e86a5f5b1bc7823b34b8320caa59843321da17c"},
		{all(), "85a1ab0c86d0b27ba379d345e248dc3a81676afc8f3b460106f0c6ae25dd79c4"},
	} {
		if h := tree.Root(c.s); h != of(c.want) {
			t.Errorf("of %d accounts: %x", len(c.s), h)
		}
	}
}

// TestP701RootOfOne stands one account at each Id: seven times nothing is beside it, on either side.
func TestP701RootOfOne(t *testing.T) {
	seen := make(map[api.Hash]int)
	for id := range 256 {
		s := api.State{{Id: id, Data: 1}}
		h := tree.Root(s)
		if h != among(s, 0, 256) {
			t.Errorf("%d: %x", id, h)
		}
		seen[h]++
	}
	if len(seen) != 256 {
		t.Errorf("%d roots of 256 states", len(seen))
	}
}

func TestP701RootOfSome(t *testing.T) {
	r := rand.New(rand.NewSource(2))
	for n := range 257 {
		s := some(r, n)
		h := tree.Root(s)
		if h != among(s, 0, 256) {
			t.Fatalf("of %d accounts: %x", n, h)
		}
		r.Shuffle(n, func(i, j int) { s[i], s[j] = s[j], s[i] })
		if tree.Root(s) != h {
			t.Fatalf("of %d accounts: the order is told", n)
		}
	}
}

// TestP701RootOfEachPair stands two accounts beneath each of the places where two ways meet.
func TestP701RootOfEachPair(t *testing.T) {
	for k := range 8 {
		for id := range 256 {
			s := api.State{{Id: id, Nonce: 1}, {Id: id ^ 1<<k, Balance: 3}}
			if h := tree.Root(s); h != among(s, 0, 256) {
				t.Fatalf("%+v: %x", s, h)
			}
		}
	}
}
