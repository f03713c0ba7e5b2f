package shelf

import "cmp"

// tree is keys and values in rising order; nil is the one without any. A tree is never changed, a change makes another one: so whoever goes over one sees it as it was, however long that takes, and nothing need be copied ahead.
type tree[K cmp.Ordered, V any] struct {
	key         K
	value       V
	left, right *tree[K, V]
	size        int
}

// A tree is kept low by these two: with them, one key more or less is always set right by one turn.
const (
	heaviest = 3 // a side weighs at most this many times what the other one does
	turnable = 2 // a side is turned as a whole while its inner part weighs less than this many times its outer one
)

func (t *tree[K, V]) count() int {
	if t == nil {
		return 0
	}
	return t.size
}

// weight is one above the count, so that no side weighs nothing.
func (t *tree[K, V]) weight() int { return t.count() + 1 }

// over: a tree of t's own key and value, with these sides, whatever they weigh.
func (t *tree[K, V]) over(left, right *tree[K, V]) *tree[K, V] {
	return &tree[K, V]{t.key, t.value, left, right, left.count() + 1 + right.count()}
}

// balanced: as over, where one side may have become too heavy by one key.
func (t *tree[K, V]) balanced(left, right *tree[K, V]) *tree[K, V] {
	switch {
	case right.weight() > heaviest*left.weight():
		return t.turnedLeft(left, right)
	case left.weight() > heaviest*right.weight():
		return t.turnedRight(left, right)
	}
	return t.over(left, right)
}

// turnedLeft: as over, with some of the right side brought to the left.
func (t *tree[K, V]) turnedLeft(left, right *tree[K, V]) *tree[K, V] {
	inner, outer := right.left, right.right
	if inner.weight() < turnable*outer.weight() {
		return right.over(t.over(left, inner), outer)
	}
	return inner.over(t.over(left, inner.left), right.over(inner.right, outer))
}

// turnedRight: as over, with some of the left side brought to the right.
func (t *tree[K, V]) turnedRight(left, right *tree[K, V]) *tree[K, V] {
	outer, inner := left.left, left.right
	if inner.weight() < turnable*outer.weight() {
		return left.over(outer, t.over(inner, right))
	}
	return inner.over(left.over(outer, inner.left), t.over(inner.right, right))
}

// with: the tree in which a key has a value.
func (t *tree[K, V]) with(k K, v V) *tree[K, V] {
	if t == nil {
		return &tree[K, V]{key: k, value: v, size: 1}
	}
	switch cmp.Compare(k, t.key) {
	case -1:
		return t.balanced(t.left.with(k, v), t.right)
	case 1:
		return t.balanced(t.left, t.right.with(k, v))
	}
	return &tree[K, V]{t.key, v, t.left, t.right, t.size}
}

// without: the tree in which a key has none.
func (t *tree[K, V]) without(k K) *tree[K, V] {
	if t == nil {
		return nil
	}
	switch cmp.Compare(k, t.key) {
	case -1:
		return t.balanced(t.left.without(k), t.right)
	case 1:
		return t.balanced(t.left, t.right.without(k))
	}
	if t.right == nil {
		return t.left
	}
	next := t.right.at(0)
	return next.balanced(t.left, t.right.without(next.key))
}

// find: the part of the tree that has a key at its top; nil, if none has.
func (t *tree[K, V]) find(k K) *tree[K, V] {
	for t != nil {
		switch cmp.Compare(k, t.key) {
		case -1:
			t = t.left
		case 1:
			t = t.right
		default:
			return t
		}
	}
	return nil
}

// at: the part of the tree that has the i-th key at its top; nil, if there is no such key.
func (t *tree[K, V]) at(i int) *tree[K, V] {
	for t != nil {
		ahead := t.left.count()
		switch {
		case i < ahead:
			t = t.left
		case i > ahead:
			i -= ahead + 1
			t = t.right
		default:
			return t
		}
	}
	return nil
}

// walk: all keys and values are given, till one is refused; whether none was.
func (t *tree[K, V]) walk(give func(K, V) bool) bool {
	return t == nil || t.left.walk(give) && give(t.key, t.value) && t.right.walk(give)
}

// walkFrom: as walk, of the keys at or above one.
func (t *tree[K, V]) walkFrom(k K, give func(K, V) bool) bool {
	switch {
	case t == nil:
		return true
	case cmp.Less(t.key, k):
		return t.right.walkFrom(k, give)
	}
	return t.left.walkFrom(k, give) && give(t.key, t.value) && t.right.walk(give)
}

// grown: the tree of things that rise, made at once, which is cheaper than one by one.
func grown[T cmp.Ordered](rising []T) *tree[T, struct{}] {
	if len(rising) == 0 {
		return nil
	}
	mid := len(rising) / 2
	top := &tree[T, struct{}]{key: rising[mid]}
	return top.over(grown(rising[:mid]), grown(rising[mid+1:]))
}
