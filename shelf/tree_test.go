package shelf

import (
	"cmp"
	"math/bits"
	"math/rand"
	"testing"
)

// sound: how high a tree is, and whether its counts are right, its keys rise and no side is too heavy.
func sound[K cmp.Ordered, V any](t *tree[K, V]) (height int, ok bool) {
	if t == nil {
		return 0, true
	}
	a, left := sound(t.left)
	b, right := sound(t.right)
	ok = left && right && t.size == t.left.count()+1+t.right.count()
	ok = ok && (t.left == nil || t.left.at(t.left.count()-1).key < t.key)
	ok = ok && (t.right == nil || t.key < t.right.at(0).key)
	ok = ok && t.left.weight() <= 3*t.right.weight() && t.right.weight() <= 3*t.left.weight()
	return max(a, b) + 1, ok
}

// check: that a tree is sound, and its height as low as that makes it.
func check[K cmp.Ordered, V any](t *testing.T, top *tree[K, V]) {
	t.Helper()
	height, ok := sound(top)
	// A side has at most three quarters of the weight, so that a weight of 2^k is used up in 2.5 k steps.
	if most := 5 * bits.Len(uint(top.weight())) / 2; !ok || height > most {
		t.Fatalf("%d keys: sound %v, height %d of at most %d", top.count(), ok, height, most)
	}
}

// P1: a tree stays low, so that no call goes deep, whatever comes and goes in whichever order.
func TestTreesStayLow(t *testing.T) {
	const n = 600
	r := rand.New(rand.NewSource(1))
	orders := []func() []int{
		func() []int { return rising(n) },
		func() []int { return falling(n) },
		func() []int { return r.Perm(n) },
	}
	for _, come := range orders {
		for _, leave := range orders {
			var top *tree[int, struct{}]
			for _, k := range come() {
				top = top.with(k, struct{}{})
				check(t, top)
			}
			for _, k := range leave() {
				top = top.without(k)
				check(t, top)
			}
			if top != nil {
				t.Error("something is left")
			}
		}
	}
}

// rising: so many numbers.
func rising(n int) []int {
	list := make([]int, n)
	for k := range list {
		list[k] = k
	}
	return list
}

// falling: the same, the other way round.
func falling(n int) []int {
	list := rising(n)
	for k := range list {
		list[k] = n - 1 - k
	}
	return list
}

// P1: the same where keys come and go at once, and for trees that are made at once and then changed.
func TestTreesStayLowInMixedChanges(t *testing.T) {
	for n := range 200 {
		top := grown(rising(n))
		check(t, top)
		for k := range n {
			check(t, top.without(k))
			check(t, top.with(k, struct{}{}))
		}
		check(t, top.with(-1, struct{}{}))
		check(t, top.with(n, struct{}{}))
	}
	r := rand.New(rand.NewSource(2))
	for round := range 20 {
		var top *tree[int, int]
		for range 2000 {
			k := r.Intn(10 + 30*round)
			if r.Intn(2) == 0 {
				top = top.with(k, k)
			} else {
				top = top.without(k)
			}
			check(t, top)
		}
	}
}

// P8.2, P8.4: a tree that is held while others are made of it stays as it is.
func TestTreesAreNeverChanged(t *testing.T) {
	var held []*tree[int, int]
	var lists [][]int
	list := func(top *tree[int, int]) []int {
		var out []int
		top.walk(func(k, v int) bool { out = append(out, k, v); return true })
		return out
	}
	r := rand.New(rand.NewSource(3))
	var top *tree[int, int]
	for n := range 400 {
		held, lists = append(held, top), append(lists, list(top))
		if r.Intn(5) > 1 {
			top = top.with(r.Intn(60), n)
		} else {
			top = top.without(r.Intn(60))
		}
	}
	for k, top := range held {
		now := list(top)
		for at, x := range lists[k] {
			if len(now) != len(lists[k]) || now[at] != x {
				t.Fatalf("tree %d was changed: %v, now %v", k, lists[k], now)
			}
		}
	}
}
