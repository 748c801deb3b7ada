package tree_test

import (
	"math"
	"math/rand"
	"testing"

	"capstan/api"
	"capstan/tree"
)

var outside = []int{-1, 256, 257, 511, -255, -256, 1 << 40, math.MinInt, math.MaxInt}

func TestP701ProveOfNoAccount(t *testing.T) {
	for _, id := range outside {
		if p := tree.Prove(all(), id); p != (tree.Path{}) {
			t.Errorf("%d: %x", id, p)
		}
	}
}

func TestP701ProveByHand(t *testing.T) {
	s := api.State{{Id: 9, Data: 2}, {Id: 8, Data: 1}, {Id: 11, Nonce: 3}, {Id: 200, Balance: 4}}
	leaf := func(i int) api.Hash { return told(s[i]) }
	none := api.Hash{}
	rise := func(h api.Hash, sides string) api.Hash {
		for _, side := range sides { // R: it stands to the right of noughts
			if side == 'R' {
				h = pair(none, h)
			} else {
				h = pair(h, none)
			}
		}
		return h
	}
	far := rise(leaf(3), "LLLRLLR") // 200 is 11001000: its digits, the lowest first, till the half is reached
	if p := tree.Prove(s, 9); p != (tree.Path{leaf(1), pair(none, leaf(2)), 7: far}) {
		t.Errorf("9: %x", p)
	}
	if p := tree.Prove(s, 10); p != (tree.Path{leaf(2), pair(leaf(1), leaf(0)), 7: far}) {
		t.Errorf("10, which is not there: %x", p)
	}
	near := rise(pair(pair(leaf(1), leaf(0)), pair(none, leaf(2))), "LRLLL")
	if p := tree.Prove(s, 200); p != (tree.Path{7: near}) {
		t.Errorf("200: %x", p)
	}
}

func TestP701ProveOfEachId(t *testing.T) {
	r := rand.New(rand.NewSource(4))
	for _, n := range []int{0, 1, 2, 5, 40, 128, 255, 256} {
		s := some(r, n)
		for id := range 256 {
			if p := tree.Prove(s, id); p != way(s, id) {
				t.Fatalf("%d of %d accounts: %x", id, n, p)
			}
		}
	}
}

// TestP701ProveOfItself: an account's path does not hang on the account.
func TestP701ProveOfItself(t *testing.T) {
	s := all()
	for id := range s {
		p := tree.Prove(s, id)
		was := s[id]
		s[id].Balance += 5
		if tree.Prove(s, id) != p {
			t.Errorf("%d: changed, it has another path", id)
		}
		s[id] = was
		if tree.Prove(append(append(api.State{}, s[:id]...), s[id+1:]...), id) != p {
			t.Errorf("%d: gone, it has another path", id)
		}
	}
}

func TestP701UpOfNoAccount(t *testing.T) {
	for _, id := range outside {
		for _, p := range []tree.Path{{}, tree.Prove(all(), 3), {7: {1}}} {
			if h := tree.Up(api.Account{Id: id, Balance: 1, Nonce: 2, Data: 5}, p); h != (api.Hash{}) {
				t.Errorf("%d: %x", id, h)
			}
		}
	}
}

// anyPath is sums of any bytes, some of them noughts.
func anyPath(r *rand.Rand) tree.Path {
	p := tree.Path{}
	for k := range p {
		if r.Intn(2) == 0 {
			r.Read(p[k][:])
		}
	}
	return p
}

// TestP701UpOfAny hands paths that no state has, too: of an account that is none there may be noughts only on the way, or at its end.
func TestP701UpOfAny(t *testing.T) {
	r := rand.New(rand.NewSource(5))
	for id := range 256 {
		for _, a := range []api.Account{{Id: id}, {Id: id, Balance: 1}, {Id: id, Nonce: math.MaxInt}, {Id: id, Data: math.MinInt}} {
			for k := range 8 {
				p := tree.Path{}
				p[k][31-k] = 1
				for _, q := range []tree.Path{{}, p, anyPath(r)} {
					if h := tree.Up(a, q); h != led(a, q) {
						t.Fatalf("%+v by %x: %x", a, q, h)
					}
				}
			}
		}
	}
}

func FuzzP701(f *testing.F) {
	f.Add(7, 500, 3, -9, []byte{0, 1, 2})
	f.Add(255, 0, 0, 0, []byte(nil))
	f.Add(256, 1, 0, 0, []byte{5})
	f.Fuzz(func(t *testing.T, id, balance, nonce, data int, sums []byte) {
		a, p := api.Account{Id: id, Balance: balance, Nonce: nonce, Data: data}, tree.Path{}
		for i := 0; i < len(sums) && i < 8*32; i++ {
			p[i/32][i%32] = sums[i]
		}
		want := api.Hash{}
		if id >= 0 && id < 256 {
			want = led(a, p)
		}
		if tree.Leaf(a) != told(a) || tree.Up(a, p) != want {
			t.Errorf("%+v by %x", a, p)
		}
	})
}
