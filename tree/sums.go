package tree

import (
	"capstan/api"
	"capstan/sha"
)

// sums are those of a tree, by their places: beneath a place n stand 2n and 2n + 1.
// Most often few accounts are there: sums of noughts are left out, and the map answers them all the same.
type sums map[int]api.Hash

// top is the place that all others stand beneath.
const top = 1

// leafAt is the place of an account's leaf: Deep levels beneath the top, by Ids.
func leafAt(id int) int { return top<<api.Deep + id }

// above and beside are the places one level up, and on the other side of what stands above.
func above(at int) int  { return at >> 1 }
func beside(at int) int { return at ^ 1 }

// isId tells whether an account may have that Id.
func isId(id int) bool { return id >= 0 && id < api.Ids }

// over is what stands above two sums, the lesser Ids' first.
func over(left, right api.Hash) api.Hash {
	if left == (api.Hash{}) && right == (api.Hash{}) {
		return api.Hash{}
	}
	return sha.Two(left, right)
}

// grown is a state's tree, from its leaves up.
func grown(s api.State) sums {
	t := make(sums)
	for _, a := range s {
		if isId(a.Id) { // a state that is not sound may hold others, which have no leaf
			t.put(leafAt(a.Id), Leaf(a))
		}
	}
	for at := leafAt(0) - 1; at >= top; at-- {
		t.put(at, over(t[2*at], t[2*at+1]))
	}
	return t
}

func (t sums) put(at int, h api.Hash) {
	if h != (api.Hash{}) {
		t[at] = h
	}
}
