package tree_test

import (
	"math/rand"
	"testing"

	"capstan/api"
	"capstan/tree"
)

func TestP702(t *testing.T) {
	r := rand.New(rand.NewSource(6))
	for _, n := range []int{0, 1, 2, 3, 17, 100, 255, 256} {
		s := some(r, n)
		root := tree.Root(s)
		for id := range 256 {
			p := tree.Prove(s, id)
			if h := tree.Up(at(s, id), p); h != root {
				t.Fatalf("%d of %d accounts: %x, not %x", id, n, h, root)
			}
			checkOthers(t, at(s, id), p, root)
		}
	}
}

// checkOthers looks for another account that the path leads to the root.
func checkOthers(t *testing.T, a api.Account, p tree.Path, root api.Hash) {
	t.Helper()
	for _, b := range []api.Account{
		{Id: a.Id, Balance: a.Balance + 1, Nonce: a.Nonce, Data: a.Data},
		{Id: a.Id, Balance: a.Balance, Nonce: a.Nonce + 1, Data: a.Data},
		{Id: a.Id, Balance: a.Balance, Nonce: a.Nonce, Data: a.Data - 1},
		{Id: a.Id, Balance: a.Balance ^ 1<<49, Nonce: a.Nonce, Data: a.Data},
		{Id: a.Id, Balance: a.Nonce + 7, Nonce: a.Balance, Data: a.Data},
		{Id: a.Id},
	} {
		if b != a && tree.Up(b, p) == root {
			t.Fatalf("%+v is proved where %+v stands", b, a)
		}
	}
}

// TestP702ElsewhereById: what stands at one Id is not proved at another by its path, nor by another one's.
func TestP702ElsewhereById(t *testing.T) {
	r := rand.New(rand.NewSource(7))
	s := some(r, 60)
	root := tree.Root(s)
	paths := [256]tree.Path{}
	for id := range paths {
		paths[id] = tree.Prove(s, id)
	}
	for _, a := range s {
		for id, p := range paths {
			if id == a.Id {
				continue
			}
			b := a
			b.Id = id
			if tree.Up(b, paths[a.Id]) == root || tree.Up(a, p) == root {
				t.Fatalf("%+v is proved at, or by, %d", a, id)
			}
		}
	}
}

// TestP702ByAnotherPath: no bit of a path may be another one, nor two of its sums change places.
func TestP702ByAnotherPath(t *testing.T) {
	s := all()
	root := tree.Root(s)
	for _, id := range []int{0, 1, 85, 170, 254, 255} {
		own := tree.Prove(s, id)
		for bit := range 8 * 32 * 8 {
			p := own
			p[bit/256][bit/8%32] ^= 1 << (bit % 8)
			if tree.Up(s[id], p) == root {
				t.Fatalf("%d: by another path, bit %d", id, bit)
			}
		}
		for k := range 7 {
			p := own
			p[k], p[k+1] = p[k+1], p[k]
			if tree.Up(s[id], p) == root {
				t.Fatalf("%d: by a path whose sums %d and %d change places", id, k, k+1)
			}
		}
	}
}

// TestP702BehindAChange: the path of an account leads to the root behind its change, too.
func TestP702BehindAChange(t *testing.T) {
	r := rand.New(rand.NewSource(8))
	s := some(r, 90)
	for id := range 256 {
		b := api.Account{Id: id, Balance: r.Intn(2), Data: r.Intn(3)}
		next := api.State{}
		for _, a := range s {
			if a.Id != id {
				next = append(next, a)
			}
		}
		if b != (api.Account{Id: id}) {
			next = append(next, b)
		}
		if tree.Up(b, tree.Prove(s, id)) != tree.Root(next) {
			t.Fatalf("%+v leads elsewhere", b)
		}
	}
}
