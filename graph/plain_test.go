package graph_test

import (
	"cmp"
	"fmt"
	"slices"
	"testing"

	"reliquary/api"
	"reliquary/graph"
)

// plain is a graph by the chapter's own words, to hold the answers against: what each node was last said to point to. What is asked of it is found by trying, which will do for small graphs.
type plain[K cmp.Ordered] map[K][]K

// once: the keys of a list, rising, each once; each is put ahead of the first that is above it.
func once[K cmp.Ordered](list []K) []K {
	var out []K
	for _, x := range list {
		at := 0
		for at < len(out) && out[at] < x {
			at++
		}
		if at == len(out) || out[at] != x {
			out = slices.Insert(out, at, x)
		}
	}
	return out
}

// those: the keys of a list of which something holds.
func those[K any](list []K, holds func(K) bool) []K {
	var out []K
	for _, x := range list {
		if holds(x) {
			out = append(out, x)
		}
	}
	return out
}

// anyKey: something that holds of each key.
func anyKey[K any](K) bool { return true }

// isIn: what holds of the keys of a list.
func isIn[K comparable](list []K) func(K) bool {
	return func(x K) bool { return slices.Contains(list, x) }
}

func (p plain[K]) has(k K) bool {
	_, ok := p[k]
	return ok
}

func (p plain[K]) lacks(k K) bool { return !p.has(k) }

func (p plain[K]) keys() []K {
	var out []K
	for k := range p {
		out = append(out, k)
	}
	return once(out)
}

// met: some keys, and what they point to, and so on till none is new; of those pointed to, only such as are allowed.
func (p plain[K]) met(from []K, allowed func(K) bool) []K {
	out := once(from)
	for {
		more := out
		for _, k := range out {
			more = append(slices.Clone(more), those(p[k], allowed)...)
		}
		more = once(more)
		if len(more) == len(out) {
			return out
		}
		out = more
	}
}

// rings: whether there is a way from one of some keys back to it, on which all are allowed.
func (p plain[K]) rings(keys []K, allowed func(K) bool) bool {
	return slices.ContainsFunc(keys, func(k K) bool {
		return slices.Contains(p.met(those(p[k], allowed), allowed), k)
	})
}

// least: the first of rising keys that points to none of them.
func (p plain[K]) least(rising []K) K {
	return those(rising, func(k K) bool { return !slices.ContainsFunc(p[k], isIn(rising)) })[0]
}

func (p plain[K]) order(keys []K) ([]K, api.Errno) {
	switch {
	case slices.ContainsFunc(keys, p.lacks):
		return nil, api.ErrNone
	case p.rings(keys, isIn(keys)):
		return nil, api.ErrCycle
	}
	var out []K
	for left := once(keys); len(left) > 0; {
		next := p.least(left)
		out = append(out, next)
		left = those(left, func(k K) bool { return k != next })
	}
	return out, api.OK
}

// longest: how many pointings the longest of all ways from a node over nodes has, where no way goes round.
func (p plain[K]) longest(k K) int {
	most := 0
	for _, x := range p[k] {
		if p.has(x) {
			most = max(most, 1+p.longest(x))
		}
	}
	return most
}

func (p plain[K]) height(k K) (int, api.Errno) {
	switch {
	case p.lacks(k):
		return 0, api.ErrNone
	case p.rings(p.met([]K{k}, anyKey), anyKey):
		return 0, api.ErrCycle
	}
	return p.longest(k), api.OK
}

// made: a graph of these nodes, put in an order that hangs on nothing; each list of what is pointed to as it stands.
func (p plain[K]) made() *graph.Graph[K] {
	g := graph.New[K]()
	for k, to := range p {
		g.Put(k, to)
	}
	return g
}

// is checks that two lists have the same keys.
func is[K comparable](t *testing.T, what string, got, want []K) {
	t.Helper()
	if !slices.Equal(got, want) {
		t.Errorf("%s: %.100v, not %.100v", what, got, want)
	}
}

// truth checks an answer that is true or false.
func truth(t *testing.T, what string, got, want bool) {
	t.Helper()
	if got != want {
		t.Errorf("%s: %v", what, got)
	}
}

// orderIs checks what Order answers.
func orderIs[K cmp.Ordered](t *testing.T, g *graph.Graph[K], keys, want []K, code api.Errno) {
	t.Helper()
	got, e := g.Order(keys)
	if e != code || !slices.Equal(got, want) {
		t.Errorf("Order(%.100v): %.100v, %d; not %.100v, %d", keys, got, e, want, code)
	}
	if e != api.OK && got != nil {
		t.Errorf("Order(%.100v): a list beside error %d", keys, e)
	}
}

// heightIs checks what Height answers.
func heightIs[K cmp.Ordered](t *testing.T, g *graph.Graph[K], k K, want int, code api.Errno) {
	t.Helper()
	if got, e := g.Height(k); got != want || e != code {
		t.Errorf("Height(%v): %d, %d; not %d, %d", k, got, e, want, code)
	}
}

// nodesAre checks what a graph tells of its nodes, and of other keys.
func nodesAre[K cmp.Ordered](t *testing.T, g *graph.Graph[K], p plain[K], others []K) {
	t.Helper()
	is(t, "Keys", g.Keys(), p.keys())
	for _, k := range slices.Concat(p.keys(), others) {
		truth(t, fmt.Sprintf("Has(%v)", k), g.Has(k), p.has(k))
		is(t, fmt.Sprintf("To(%v)", k), g.To(k), once(p[k]))
		n, e := p.height(k)
		heightIs(t, g, k, n, e)
	}
}

// standsBehind checks that in a list each key stands behind all of the others that it points to.
func standsBehind[K cmp.Ordered](t *testing.T, g *graph.Graph[K], list []K) {
	t.Helper()
	for at, k := range list {
		for _, x := range g.To(k) {
			if slices.Contains(list[at:], x) {
				t.Errorf("%v points to %v, and stands ahead of it or is it: %.100v", k, x, list)
			}
		}
	}
}

// goingsAre checks what a graph tells of some keys and of what hangs on them.
func goingsAre[K cmp.Ordered](t *testing.T, g *graph.Graph[K], p plain[K], from []K) {
	t.Helper()
	met := p.met(from, anyKey)
	reach, open := g.Reach(from), g.Open(from)
	is(t, fmt.Sprintf("Reach(%v)", from), reach, those(met, p.has))
	is(t, fmt.Sprintf("Open(%v)", from), open, those(met, p.lacks))
	is(t, fmt.Sprintf("Reach of what is met from %v", from), g.Reach(met), reach)
	is(t, fmt.Sprintf("Open of what is met from %v", from), g.Open(met), open)
	for _, keys := range [][]K{from, those(from, p.has), reach} {
		want, e := p.order(keys)
		orderIs(t, g, keys, want, e)
		got, _ := g.Order(keys)
		standsBehind(t, g, got)
	}
}
