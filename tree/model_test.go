package tree_test

import (
	"crypto/sha256"
	"encoding/binary"
	"math/rand"
	"strings"

	"capstan/api"
	"capstan/tree"
)

// told is a sum as the chapter tells it of an account, with nothing of the project's.
func told(a api.Account) api.Hash {
	if a.Balance == 0 && a.Nonce == 0 && a.Data == 0 {
		return api.Hash{}
	}
	b := []byte{0}
	for _, n := range []int{a.Id, a.Balance, a.Nonce, a.Data} {
		b = binary.AppendVarint(b, int64(n))
	}
	return sha256.Sum256(b)
}

// pair is a sum as the chapter tells it of two.
func pair(a, b api.Hash) api.Hash {
	if a == (api.Hash{}) && b == (api.Hash{}) {
		return api.Hash{}
	}
	return sha256.Sum256([]byte("\x01" + string(a[:]) + string(b[:])))
}

// among is the sum that stands above the leaves from first on, n of them.
func among(s api.State, first, n int) api.Hash {
	if n > 1 {
		return pair(among(s, first, n/2), among(s, first+n/2, n/2))
	}
	for _, a := range s {
		if a.Id == first {
			return told(a)
		}
	}
	return api.Hash{}
}

// way is the path of a leaf, each of its sums made from the leaves below.
func way(s api.State, id int) tree.Path {
	p := tree.Path{}
	for k := range p {
		n := 1 << k
		p[k] = among(s, (id/n^1)*n, n)
	}
	return p
}

// led is the top that a leaf leads to, by the digits of its Id: the highest one picks the half beneath the top.
func led(a api.Account, p tree.Path) api.Hash {
	h := told(a)
	for k, other := range p {
		if a.Id/(1<<k)%2 == 0 {
			h = pair(h, other)
		} else {
			h = pair(other, h)
		}
	}
	return h
}

// at is the account of an Id, or one of noughts.
func at(s api.State, id int) api.Account {
	for _, a := range s {
		if a.Id == id {
			return a
		}
	}
	return api.Account{Id: id}
}

// some is n accounts with unlike Ids that are some, in no order.
func some(r *rand.Rand, n int) api.State {
	s := api.State{}
	for _, id := range r.Perm(256)[:n] {
		a := api.Account{Id: id, Balance: r.Intn(3), Nonce: r.Intn(2), Data: r.Intn(5) - 2}
		if a == (api.Account{Id: id}) {
			a.Data = -1 - r.Intn(1<<40)
		}
		s = append(s, a)
	}
	return s
}

// all is 256 accounts.
func all() api.State {
	s := api.State{}
	for id := range 256 {
		s = append(s, api.Account{Id: id, Balance: id, Nonce: 1, Data: -id})
	}
	return s
}

// of is a sum from its digits.
func of(digits string) api.Hash {
	h := api.Hash{}
	for i := range h {
		for _, d := range digits[2*i : 2*i+2] {
			h[i] = h[i]<<4 | byte(strings.IndexRune("0123456789abcdef", d))
		}
	}
	return h
}
