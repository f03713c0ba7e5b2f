package graph_test

import (
	"cmp"
	"fmt"
	"math"
	"math/rand"
	"runtime/debug"
	"slices"
	"testing"

	"reliquary/api"
	"reliquary/graph"
)

// P9.1 to P9.4: the chapter's examples.
func TestExamples(t *testing.T) {
	g := graph.New[int]()
	g.Put(1, []int{2, 3})
	g.Put(2, []int{3, 9})
	g.Put(3, nil)
	is(t, "Reach", g.Reach([]int{1}), []int{1, 2, 3})
	is(t, "Open", g.Open([]int{1}), []int{9})
	orderIs(t, g, []int{1, 2, 3}, []int{3, 2, 1}, api.OK)
	heightIs(t, g, 1, 2, api.OK)
}

// P1, rule 5: a nil graph does nothing, has nothing, and answers ErrNil ahead of all others.
func TestNilGraph(t *testing.T) {
	var g *graph.Graph[string]
	for range 2 {
		for _, k := range []string{"", "a", "x"} {
			g.Put(k, nil)
			g.Put(k, []string{k, "b"})
			truth(t, "Has", g.Has(k), false)
			is(t, "To", g.To(k), nil)
			heightIs(t, g, k, 0, api.ErrNil)
		}
		is(t, "Keys", g.Keys(), nil)
		for _, list := range [][]string{nil, {}, {"a"}, {"x", "a", "x"}} {
			is(t, "Reach", g.Reach(list), nil)
			is(t, "Open", g.Open(list), nil)
			orderIs(t, g, list, nil, api.ErrNil)
		}
	}
}

// P9.1 to P9.4: a graph without nodes, in which all that is asked for is open.
func TestGraphWithoutNodes(t *testing.T) {
	g := graph.New[int]()
	is(t, "Keys", g.Keys(), nil)
	for _, k := range []int{math.MinInt, -1, 0, 1, math.MaxInt} {
		truth(t, "Has", g.Has(k), false)
		is(t, "To", g.To(k), nil)
		heightIs(t, g, k, 0, api.ErrNone)
		orderIs(t, g, []int{k}, nil, api.ErrNone)
		is(t, "Reach", g.Reach([]int{k}), nil)
		is(t, "Open", g.Open([]int{k}), []int{k})
	}
	orderIs(t, g, nil, nil, api.OK)
	orderIs(t, g, []int{}, nil, api.OK)
	is(t, "Reach", g.Reach(nil), nil)
	is(t, "Open", g.Open(nil), nil)
	is(t, "Open", g.Open([]int{5, 3, 5, -1, 3}), []int{-1, 3, 5})
}

// P9.1: nodes that point to nothing, to themselves, to what is no node, to one key several times; and what is no node, but pointed to, or nowhere.
func TestNodes(t *testing.T) {
	p := plain[int]{1: nil, 2: {}, 3: {3}, 4: {9, 8}, 5: {7, 1, 7, 1, 1, 9, 7}, 6: {6, 6, 5, 6}}
	g := p.made()
	nodesAre(t, g, p, []int{0, 7, 8, 9, 10, -1, math.MinInt, math.MaxInt})
	is(t, "To", g.To(5), []int{1, 7, 9})
	is(t, "To", g.To(3), []int{3})
	is(t, "To of what is only pointed to", g.To(7), nil)
	truth(t, "Has of what is only pointed to", g.Has(7), false)
	is(t, "Keys", g.Keys(), []int{1, 2, 3, 4, 5, 6})
}

// P9.1: a node that is put again points to the new keys and no others, in each answer.
func TestPutAgain(t *testing.T) {
	lists := [][]int{nil, {1}, {2}, {3, 9}, {1, 2, 3}, {2, 2}, {9}, {8, 3}}
	for _, first := range lists {
		for _, then := range lists {
			p := plain[int]{2: {3}, 3: nil, 1: first}
			g := p.made()
			g.Put(1, first)
			nodesAre(t, g, p, []int{8, 9})
			p[1] = then
			g.Put(1, then)
			nodesAre(t, g, p, []int{8, 9})
			for _, from := range [][]int{{1}, {1, 2}, {3, 1, 9}} {
				goingsAre(t, g, p, from)
			}
			g.Put(4, []int{1})
			p[4] = []int{1}
			nodesAre(t, g, p, []int{8, 9})
			goingsAre(t, g, p, []int{4})
		}
	}
}

// P9.1: a key that is only pointed to becomes a node, and others are as they were.
func TestWhatWasOpenIsPut(t *testing.T) {
	g := graph.New[string]()
	g.Put("a", []string{"b"})
	is(t, "Open", g.Open([]string{"a"}), []string{"b"})
	orderIs(t, g, []string{"a", "b"}, nil, api.ErrNone)
	heightIs(t, g, "a", 0, api.OK)
	g.Put("b", []string{"c"})
	is(t, "Open", g.Open([]string{"a"}), []string{"c"})
	orderIs(t, g, []string{"a", "b"}, []string{"b", "a"}, api.OK)
	heightIs(t, g, "a", 1, api.OK)
	g.Put("c", []string{"a"})
	is(t, "Open", g.Open([]string{"a"}), nil)
	orderIs(t, g, []string{"a", "b", "c"}, nil, api.ErrCycle)
	heightIs(t, g, "a", 0, api.ErrCycle)
	g.Put("b", nil)
	orderIs(t, g, []string{"a", "b", "c"}, []string{"b", "a", "c"}, api.OK)
	heightIs(t, g, "a", 1, api.OK)
	is(t, "To", g.To("a"), []string{"b"})
}

// lists: no keys, each one, and one several times, all pairs, and all, rising, falling and twice.
func lists[K any](keys []K) [][]K {
	falling := slices.Clone(keys)
	slices.Reverse(falling)
	out := [][]K{nil, {}, keys, falling, slices.Concat(keys, falling)}
	for _, a := range keys {
		out = append(out, []K{a}, []K{a, a, a})
		for _, b := range keys {
			out = append(out, []K{a, b}, []K{b, a, b})
		}
	}
	return out
}

// rowIs: the keys, rising, as rows up, down and round, and as a graph in which each points to all.
func rowIs[K cmp.Ordered](t *testing.T, keys []K) {
	t.Helper()
	up, down, round, all := plain[K]{}, plain[K]{}, plain[K]{}, plain[K]{}
	for at, k := range keys {
		up[k], down[k] = keys[at+1:min(at+2, len(keys))], keys[max(at-1, 0):at]
		round[k], all[k] = []K{keys[(at+1)%len(keys)]}, keys
	}
	up[keys[0]] = slices.Clone(keys[1:])
	down[keys[0]] = nil
	for _, p := range []plain[K]{up, down, round, all} {
		g := p.made()
		nodesAre(t, g, p, nil)
		for _, from := range lists(keys) {
			goingsAre(t, g, p, from)
		}
		// The same without one of the nodes.
		delete(p, keys[len(keys)/2])
		g = p.made()
		nodesAre(t, g, p, keys)
		for _, from := range lists(keys) {
			goingsAre(t, g, p, from)
		}
	}
	down[keys[0]] = nil
	g := down.made()
	g.Put(keys[len(keys)/2], keys[:len(keys)/2])
	orderIs(t, g, keys, keys, api.OK)
	heightIs(t, g, keys[len(keys)-1], len(keys)-1, api.OK)
}

// kind is a type of texts with a name of its own.
type kind string

// P9.1 to P9.5: numbers with the least and the greatest of their types, and texts, the empty one and ones that begin alike.
func TestKeysOfSomeTypes(t *testing.T) {
	rowIs(t, []int{math.MinInt, math.MinInt + 1, -256, -1, 0, 1, 255, math.MaxInt - 1, math.MaxInt})
	rowIs(t, []int8{-128, -127, -1, 0, 1, 126, 127})
	rowIs(t, []uint8{0, 1, 127, 128, 254, 255})
	rowIs(t, []int64{math.MinInt64, math.MinInt32, 0, math.MaxInt32, math.MaxInt64})
	rowIs(t, []uint64{0, 1, 1<<63 - 1, 1 << 63, math.MaxUint64})
	rowIs(t, []uint{0, 1, math.MaxUint})
	rowIs(t, []float64{math.Inf(-1), -math.MaxFloat64, -1, 0, math.SmallestNonzeroFloat64, 1, math.MaxFloat64, math.Inf(1)})
	rowIs(t, []float32{-1, 0, math.SmallestNonzeroFloat32, math.MaxFloat32})
	rowIs(t, []string{"", "\x00", "\x00\x00", "\x00a", "10", "9", "A", "a", "a\x00", "aa", "aaa", "ab", "b", "\x80", "é", "\xff", "\xff\x00", "\xff\xff"})
	rowIs(t, []kind{"", "a", "ab", "b"})
	rowIs(t, []string{"only"})
	rowIs(t, []int{0, 1})
}

// P9.1: the two noughts of floats are one key.
func TestNoughtsAreOneKey(t *testing.T) {
	nought := math.Copysign(0, -1)
	g := graph.New[float64]()
	g.Put(0, []float64{1})
	g.Put(nought, []float64{2, nought, 0})
	is(t, "Keys", g.Keys(), []float64{0})
	is(t, "To", g.To(0), []float64{0, 2})
	is(t, "Reach", g.Reach([]float64{nought, 0}), []float64{0})
	orderIs(t, g, []float64{nought}, nil, api.ErrCycle)
	g.Put(nought, nil)
	orderIs(t, g, []float64{nought, 0}, []float64{0}, api.OK)
}

// P1: calls end with numbers that aren't any, too.
func TestCallsEndWithoutNumbers(t *testing.T) {
	none := math.NaN()
	g := graph.New[float64]()
	lists := [][]float64{nil, {none}, {none, none, 1}, {1, none, 2, none}}
	for _, to := range lists {
		for _, k := range []float64{none, 1} {
			g.Put(k, to)
			for _, list := range lists {
				g.Reach(list)
				g.Open(list)
				g.Order(list)
			}
			for _, k := range []float64{none, 1, 2} {
				g.Has(k)
				g.To(k)
				g.Height(k)
			}
			g.Keys()
		}
	}
}

// smallGraphs gives all graphs of nodes among 1, 2 and 3 that point to these and to 9.
func smallGraphs(give func(plain[int])) {
	const subsets = 16
	ends := []int{1, 2, 3, 9}
	for code := range (subsets + 1) * (subsets + 1) * (subsets + 1) {
		p := plain[int]{}
		for k := 1; k <= 3; k++ {
			if set := code % (subsets + 1); set < subsets {
				p[k] = []int{}
				for bit, x := range ends {
					if set>>bit&1 == 1 {
						p[k] = append(p[k], x)
					}
				}
			}
			code /= subsets + 1
		}
		give(p)
	}
}

// P9.1 to P9.5: all small graphs, asked for all sets of keys.
func TestAllSmallGraphs(t *testing.T) {
	smallGraphs(func(p plain[int]) {
		g := p.made()
		nodesAre(t, g, p, []int{0, 4, 9})
		for set := range 32 {
			var from []int
			for bit, k := range []int{3, 9, 1, 5, 2} {
				if set>>bit&1 == 1 {
					from = append(from, k)
				}
			}
			goingsAre(t, g, p, from)
		}
	})
}

// mixedGraph: some of the keys as nodes, each with up to so many keys; if there are to be no rings, of those only that stand ahead of it in an order by a rule.
func mixedGraph[K cmp.Ordered](r *rand.Rand, keys []K, most int, rings bool) plain[K] {
	p := plain[K]{}
	order := r.Perm(len(keys))
	for place, at := range order {
		if r.Intn(8) == 0 {
			continue
		}
		choice := order
		if !rings {
			choice = order[:place]
		}
		to := []K{}
		for range r.Intn(most + 1) {
			if len(choice) > 0 {
				to = append(to, keys[choice[r.Intn(len(choice))]])
			}
		}
		p[keys[at]] = to
	}
	return p
}

// mixedGraphsAre checks graphs of some keys by a rule, each asked for some lists of keys.
func mixedGraphsAre[K cmp.Ordered](t *testing.T, r *rand.Rand, keys []K) {
	t.Helper()
	for round := range 120 {
		p := mixedGraph(r, keys, 1+round%5, round%3 == 0)
		g := p.made()
		nodesAre(t, g, p, keys)
		for range 20 {
			var from []K
			for range r.Intn(len(keys) + 3) {
				from = append(from, keys[r.Intn(len(keys))])
			}
			goingsAre(t, g, p, from)
		}
		goingsAre(t, g, p, g.Keys())
	}
}

// P9.1 to P9.5: graphs by a rule, with rings and without.
func TestMixedGraphs(t *testing.T) {
	r := rand.New(rand.NewSource(9))
	mixedGraphsAre(t, r, []int{math.MinInt, -7, -1, 0, 1, 2, 3, 4, 5, 40, 41, math.MaxInt})
	mixedGraphsAre(t, r, []uint8{0, 1, 2, 3, 100, 127, 128, 200, 254, 255})
	mixedGraphsAre(t, r, []string{"", "\x00", "a", "a/b", "aa", "ab", "b", "ba", "z", "\x80", "\xff"})
}

// P9.1 to P9.5: a graph that is changed many times, held against the plain one behind each change.
func TestManyChanges(t *testing.T) {
	r := rand.New(rand.NewSource(10))
	p, g := plain[int]{}, graph.New[int]()
	other := graph.New[int]()
	other.Put(1, []int{2})
	for range 600 {
		k, to := r.Intn(9), []int{}
		for range r.Intn(3) {
			to = append(to, r.Intn(11))
		}
		p[k] = to
		g.Put(k, to)
		nodesAre(t, g, p, []int{9, 10, 11, -1})
		goingsAre(t, g, p, []int{r.Intn(11), r.Intn(11)})
	}
	nodesAre(t, other, plain[int]{1: {2}}, []int{0, 2, 3})
}

// P9.2: what is met, from nothing, one, several, what is no node; over ways that part and meet again, and over rings.
func TestReachAndOpen(t *testing.T) {
	g := plain[string]{
		"top": {"left", "right"}, "left": {"foot"}, "right": {"foot", "gap"}, "foot": {"floor"}, // ways that part and meet again
		"r1": {"r2"}, "r2": {"r3", "out"}, "r3": {"r1"}, "into": {"r2"}, // a ring of three
		"self": {"self", "self"}, "alone": nil, "lost": {"void", "hole"},
	}.made()
	for _, c := range []struct{ from, reach, open []string }{
		{nil, nil, nil},
		{[]string{}, nil, nil},
		{[]string{"alone"}, []string{"alone"}, nil},
		{[]string{"top"}, []string{"foot", "left", "right", "top"}, []string{"floor", "gap"}},
		{[]string{"left"}, []string{"foot", "left"}, []string{"floor"}},
		{[]string{"right", "left"}, []string{"foot", "left", "right"}, []string{"floor", "gap"}},
		{[]string{"foot", "foot", "foot"}, []string{"foot"}, []string{"floor"}},
		{[]string{"r1"}, []string{"r1", "r2", "r3"}, []string{"out"}},
		{[]string{"r3"}, []string{"r1", "r2", "r3"}, []string{"out"}},
		{[]string{"into"}, []string{"into", "r1", "r2", "r3"}, []string{"out"}},
		{[]string{"self"}, []string{"self"}, nil},
		{[]string{"lost"}, []string{"lost"}, []string{"hole", "void"}},
		{[]string{"nowhere"}, nil, []string{"nowhere"}},
		{[]string{"void", "nowhere", "void"}, nil, []string{"nowhere", "void"}},
		{[]string{"gap", "left"}, []string{"foot", "left"}, []string{"floor", "gap"}},
		{g.Keys(), g.Keys(), []string{"floor", "gap", "hole", "out", "void"}},
	} {
		is(t, fmt.Sprintf("Reach(%v)", c.from), g.Reach(c.from), c.reach)
		is(t, fmt.Sprintf("Open(%v)", c.from), g.Open(c.from), c.open)
	}
}

// P9.3: the least that can be next is, however the keys are handed in, and whatever hangs on keys that are not asked for.
func TestOrderTakesTheLeast(t *testing.T) {
	g := plain[int]{1: {5}, 2: nil, 3: {1}, 4: nil, 5: {6, 60}, 6: nil, 7: {2, 3}, 8: {8}, 9: {10}, 10: {9}}.made()
	for _, c := range []struct {
		keys, want []int
		code       api.Errno
	}{
		{nil, nil, api.OK},
		{[]int{3}, []int{3}, api.OK},
		{[]int{3, 3, 3}, []int{3}, api.OK},
		{[]int{4, 2, 6}, []int{2, 4, 6}, api.OK},             // all could come first
		{[]int{1, 2, 4, 6}, []int{1, 2, 4, 6}, api.OK},       // 1 hangs on 6 by way of 5 alone, which isn't asked for
		{[]int{1, 2, 4, 5, 6}, []int{2, 4, 6, 5, 1}, api.OK}, // 1 is the least, but stands behind 5
		{[]int{7, 6, 5, 4, 3, 2, 1}, []int{2, 4, 6, 5, 1, 3, 7}, api.OK},
		{[]int{7, 2, 3, 1}, []int{1, 2, 3, 7}, api.OK}, // 3 can come as soon as 1 has, but 2 is less
		{[]int{9, 4}, []int{4, 9}, api.OK},             // the ring is one by way of 10 alone
		{[]int{10}, []int{10}, api.OK},
		{[]int{9, 10}, nil, api.ErrCycle},
		{[]int{10, 1, 9, 2}, nil, api.ErrCycle},
		{[]int{8}, nil, api.ErrCycle},
		{[]int{1, 8, 2}, nil, api.ErrCycle},
		{[]int{60}, nil, api.ErrNone}, // pointed to, but no node
		{[]int{1, 2, 61}, nil, api.ErrNone},
		{[]int{9, 10, 61}, nil, api.ErrNone}, // ahead of ErrCycle
		{[]int{61, 8}, nil, api.ErrNone},
		{[]int{8, 61}, nil, api.ErrNone},
	} {
		orderIs(t, g, c.keys, c.want, c.code)
	}
}

// P9.3: a key that comes free late, and is less than those that waited, is next.
func TestOrderGoesBackToTheLeast(t *testing.T) {
	g := plain[int]{1: {2}, 2: {3}, 3: nil, 4: nil, 5: {1}, 0: {4}}.made()
	orderIs(t, g, []int{0, 1, 2, 3, 4, 5}, []int{3, 2, 1, 4, 0, 5}, api.OK)
	orderIs(t, g, []int{0, 1, 2, 4, 5}, []int{2, 1, 4, 0, 5}, api.OK)
}

// P9.4: heights, where ways are long, part, and lead to rings or past them.
func TestHeight(t *testing.T) {
	g := plain[string]{
		"flat": nil, "edge": {"void", "hole"}, "up": {"flat", "void"},
		"short": {"flat"}, "long1": {"long2"}, "long2": {"short"}, "part": {"flat", "long1", "edge"}, "twice": {"part", "short", "part"},
		"r1": {"r2"}, "r2": {"r1", "flat"}, "self": {"self"}, "into": {"flat", "r1"}, "far": {"into"},
		"beside": {"flat", "short"}, "above": {"beside", "void"},
	}.made()
	for _, c := range []struct {
		k    string
		want int
		code api.Errno
	}{
		{"void", 0, api.ErrNone}, {"nowhere", 0, api.ErrNone}, {"", 0, api.ErrNone},
		{"flat", 0, api.OK}, {"edge", 0, api.OK}, {"up", 1, api.OK}, {"short", 1, api.OK}, {"long2", 2, api.OK}, {"long1", 3, api.OK},
		{"part", 4, api.OK}, {"twice", 5, api.OK},
		{"r1", 0, api.ErrCycle}, {"r2", 0, api.ErrCycle}, {"self", 0, api.ErrCycle}, {"into", 0, api.ErrCycle}, {"far", 0, api.ErrCycle},
		{"beside", 2, api.OK}, {"above", 3, api.OK},
	} {
		heightIs(t, g, c.k, c.want, c.code)
	}
}

// row: a graph in which each of so many keys points to the next one, and the last one to a key that is no node.
func row(n int) *graph.Graph[int] {
	g := graph.New[int]()
	for k := range n {
		g.Put(k, []int{k + 1})
	}
	return g
}

// P1, P9.2 to P9.4: long rows, which no call goes down by calling itself at each step.
func TestLongRows(t *testing.T) {
	const n = 100000
	defer debug.SetMaxStack(debug.SetMaxStack(1 << 20))
	g := row(n)
	keys := g.Keys()
	falling := slices.Clone(keys)
	slices.Reverse(falling)
	is(t, "Reach", g.Reach([]int{0}), keys)
	is(t, "Reach", g.Reach([]int{n / 2}), keys[n/2:])
	is(t, "Open", g.Open([]int{0}), []int{n})
	orderIs(t, g, keys, falling, api.OK)
	heightIs(t, g, 0, n-1, api.OK)
	heightIs(t, g, n-1, 0, api.OK)
	g.Put(n-1, []int{0})
	is(t, "Reach", g.Reach([]int{n / 2}), keys)
	is(t, "Open", g.Open([]int{0}), nil)
	orderIs(t, g, keys, nil, api.ErrCycle)
	orderIs(t, g, keys[:n-1], falling[1:], api.OK)
	heightIs(t, g, n/3, 0, api.ErrCycle)
}

// P1, P9.2 to P9.4: ladders, of which each step doubles the number of ways.
func TestPartingWays(t *testing.T) {
	const n = 300
	g := graph.New[int]()
	var want []int
	for k := range n {
		g.Put(2*k, []int{2*k + 2, 2*k + 3})
		g.Put(2*k+1, []int{2*k + 3, 2*k + 2})
		want = append([]int{2 * k, 2*k + 1}, want...)
	}
	is(t, "Reach", g.Reach([]int{0, 1}), g.Keys())
	is(t, "Open", g.Open([]int{0}), []int{2 * n, 2*n + 1})
	orderIs(t, g, g.Keys(), want, api.OK)
	heightIs(t, g, 0, n-1, api.OK)
	g.Put(2*n, []int{2*n - 1})
	heightIs(t, g, 0, 0, api.ErrCycle)
	heightIs(t, g, 2*n-2, 0, api.ErrCycle)
}

// P9.4: each node points to all below it, so that the longest way goes over all.
func TestHeightOverAll(t *testing.T) {
	const n = 120
	g := graph.New[int]()
	var below []int
	for k := range n {
		g.Put(k, below)
		below = append(below, k)
	}
	for k := range n {
		heightIs(t, g, k, k, api.OK)
	}
	orderIs(t, g, below, below, api.OK)
}

// roomy: a list with spare room, that is filled with another key.
func roomy(list ...int) []int {
	out := slices.Repeat([]int{77}, len(list)+9)
	return append(out[:0], list...)
}

// P9.5, rule 3: lists that are handed in are not changed, nor their spare room, and what they hold later changes no graph.
func TestListsHandedInAreNotKept(t *testing.T) {
	p := plain[int]{1: {3, 2, 3}, 2: {4}, 3: nil, 5: {5}}
	g := graph.New[int]()
	handed := map[int][]int{}
	for k, to := range p {
		handed[k] = roomy(to...)
		g.Put(k, handed[k])
		is(t, "what Put was handed", handed[k][:len(to)+9], append(slices.Clone(to), slices.Repeat([]int{77}, 9)...))
	}
	asked := [][]int{{3, 1, 3, 2}, {5, 1, 4}, {2, 2}, nil, {99, 1}}
	for _, list := range asked {
		given := roomy(list...)
		g.Reach(given)
		g.Open(given)
		g.Order(given)
		is(t, "what was handed in", given[:len(list)+9], append(slices.Clone(list), slices.Repeat([]int{77}, 9)...))
	}
	for _, list := range handed {
		for at := range list[:cap(list)] {
			list[:cap(list)][at] = 2
		}
	}
	nodesAre(t, g, p, []int{4, 77, 99})
	for _, list := range asked {
		goingsAre(t, g, p, list)
	}
}

// P9.5, rule 3: answers are new memory, their spare room too.
func TestAnswersAreNewMemory(t *testing.T) {
	p := plain[int]{1: {3, 2, 9}, 2: {4, 3}, 3: nil, 4: {8}, 5: {6}, 6: {5}}
	g := p.made()
	from := []int{1, 2, 3, 4}
	order := func() []int {
		list, _ := g.Order(from)
		return list
	}
	for name, ask := range map[string]func() []int{
		"To": func() []int { return g.To(1) }, "Keys": g.Keys, "Order": order,
		"Reach": func() []int { return g.Reach(from) }, "Open": func() []int { return g.Open(from) },
	} {
		was := ask()
		kept := slices.Clone(was)
		again := ask()
		for at := range again[:cap(again)] {
			again[:cap(again)][at] = -5
		}
		is(t, name+", when another answer was changed", was, kept)
		is(t, name+", asked again", ask(), kept)
		is(t, name+": its argument", from, []int{1, 2, 3, 4})
		nodesAre(t, g, p, []int{8, 9, -5})
		goingsAre(t, g, p, from)
	}
}

// Rule 7: what is refused changes nothing, and neither does any asking.
func TestAskingChangesNothing(t *testing.T) {
	p := plain[int]{1: {2}, 2: {1, 3}, 3: {30}}
	g := p.made()
	for range 3 {
		orderIs(t, g, []int{1, 2}, nil, api.ErrCycle)
		orderIs(t, g, []int{30}, nil, api.ErrNone)
		heightIs(t, g, 1, 0, api.ErrCycle)
		heightIs(t, g, 30, 0, api.ErrNone)
		is(t, "Open", g.Open([]int{1, 50}), []int{30, 50})
		is(t, "To", g.To(30), nil)
		nodesAre(t, g, p, []int{30, 50})
	}
}
