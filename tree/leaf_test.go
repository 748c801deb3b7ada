package tree_test

import (
	"math"
	"math/rand"
	"testing"

	"capstan/api"
	"capstan/tree"
)

func TestP701LeafOfNone(t *testing.T) {
	for _, id := range []int{0, 1, 7, 255, 256, -1, math.MinInt, math.MaxInt} {
		if h := tree.Leaf(api.Account{Id: id}); h != (api.Hash{}) {
			t.Errorf("of none, %d: %x", id, h)
		}
	}
}

func TestP701LeafByHand(t *testing.T) {
	for a, want := range map[api.Account]string{
		{Id: 7, Balance: 500, Nonce: 3, Data: -9}: "ec944f4a7c812ba625e43a784578c89a6eb0e789a04e7afcd5e2a27e30436d97",
		{Id: 0, Balance: 1}:                       "46c89f7a4e9c45b8d9368fcec59bfd91f5f3c7650f2b08f77cea5b673bfaf731",
		{Id: 255, Data: math.MinInt}:              "eb107d1ffbe8bb984c3ee2b81432cb21b8b0816f4fcd78932d38c9ba665f664f",
		{Id: -1, Nonce: 1}:                        "c7e5eb4738fcb5aff8c9ba9016737117167aecc5b371eb07f65caf981d9be0a1",
		{Id: 256, Balance: math.MaxInt, Nonce: math.MaxInt, Data: math.MaxInt}: "bf311851cf358b52796ab96e7165e2af9111d400949c3270ec5b2579f4124cfb",
	} {
		if h := tree.Leaf(a); h != of(want) {
			t.Errorf("%+v: %x", a, h)
		}
	}
}

func TestP701LeafOfEachNumber(t *testing.T) {
	numbers := []int{0, 1, -1, 63, 64, -64, -65, 255, 8191, 8192, api.MaxNonce, api.MaxMoney, math.MaxInt, math.MinInt}
	seen := make(map[api.Hash]api.Account)
	for _, id := range []int{0, 1, 63, 64, 255, 256, -1} {
		for _, balance := range numbers {
			for _, nonce := range numbers {
				for _, data := range numbers {
					a := api.Account{Id: id, Balance: balance, Nonce: nonce, Data: data}
					h := tree.Leaf(a)
					if h != told(a) {
						t.Fatalf("%+v: %x", a, h)
					}
					if b, is := seen[h]; is && h != (api.Hash{}) {
						t.Fatalf("%+v has the sum of %+v", a, b)
					}
					seen[h] = a
				}
			}
		}
	}
}

func TestP3LeafTheSameAgain(t *testing.T) {
	r := rand.New(rand.NewSource(1))
	for _, a := range some(r, 100) {
		if tree.Leaf(a) != tree.Leaf(a) {
			t.Errorf("%+v: two sums", a)
		}
	}
}
