package tree_test

import (
	"math"
	"math/rand"
	"slices"
	"strconv"
	"testing"

	"capstan/api"
	"capstan/tree"
)

func TestP2WhatIsHandedInStays(t *testing.T) {
	r := rand.New(rand.NewSource(9))
	for n := range 257 {
		whole := some(r, n)
		whole = append(whole, api.Account{Id: -7, Data: 1}, api.Account{Id: r.Intn(256), Balance: 9})
		kept, s := slices.Clone(whole), whole[:n]
		if tree.Root(s) != tree.Root(slices.Clip(s)) || tree.Prove(s, n-1) != tree.Prove(slices.Clip(s), n-1) {
			t.Fatalf("of %d accounts: spare room is told", n)
		}
		if !slices.Equal(whole, kept) {
			t.Fatalf("of %d accounts: they, or their spare room, are not as they were", n)
		}
	}
}

func TestP2WhatIsHandedInIsNotKept(t *testing.T) {
	s := all()
	root, p := tree.Root(s), tree.Prove(s, 5)
	for i := range s {
		s[i].Data++
	}
	if root != tree.Root(all()) || tree.Root(s) == root || tree.Root(s) != among(s, 0, 256) || tree.Prove(s, 5) == p {
		t.Error("a root hangs on what a state was")
	}
	q := p
	tree.Up(s[5], p)
	if q != p || tree.Prove(all(), 5) != p {
		t.Error("a path is another one behind Up")
	}
}

// TestP8OfWhatMayNotBe hands states that are none: each call ends, changes nothing, and answers the same again.
func TestP8OfWhatMayNotBe(t *testing.T) {
	r := rand.New(rand.NewSource(10))
	ids := []int{0, 1, 255, 256, 512, 511, -1, -256, math.MinInt, math.MaxInt}
	for range 300 {
		s := api.State{}
		for range r.Intn(400) {
			s = append(s, api.Account{Id: ids[r.Intn(len(ids))], Balance: r.Intn(3) - 1, Nonce: -r.Intn(2), Data: r.Intn(2) * math.MinInt})
		}
		kept, root := slices.Clone(s), tree.Root(s)
		for _, id := range ids {
			p := tree.Prove(s, id)
			if tree.Prove(s, id) != p || tree.Root(s) != root {
				t.Fatalf("%d: another answer", id)
			}
			if (id < 0 || id > 255) && p != (tree.Path{}) {
				t.Fatalf("%d: %x", id, p)
			}
		}
		if !slices.Equal(s, kept) {
			t.Fatal("a state is not as it was")
		}
	}
}

func TestP7SideBySide(t *testing.T) {
	for k := range 8 {
		t.Run(strconv.Itoa(k), func(t *testing.T) {
			t.Parallel()
			r := rand.New(rand.NewSource(int64(k)))
			for n := range 60 {
				s := some(r, n)
				if tree.Root(s) != among(s, 0, 256) || tree.Prove(s, n) != way(s, n) {
					t.Errorf("of %d accounts: another root, or path", n)
				}
			}
		})
	}
}
