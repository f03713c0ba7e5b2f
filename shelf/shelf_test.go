package shelf_test

import (
	"bytes"
	"cmp"
	"fmt"
	"iter"
	"math"
	"math/rand"
	"slices"
	"strings"
	"testing"

	"reliquary/shelf"
)

// The promises by the chapter's own words, thing by thing, to hold the answers against.

// once: the things of a list, rising, each once; each is put ahead of the first that is above it.
func once[T cmp.Ordered](list []T) []T {
	var out []T
	for _, x := range list {
		at := 0
		for at < len(out) && out[at] < x {
			at++
		}
		if at == len(out) || out[at] != x {
			out = slices.Insert(out, at, x)
		}
	}
	return out
}

// has: whether a thing is in a list.
func has[T cmp.Ordered](list []T, x T) bool {
	for _, y := range list {
		if x == y {
			return true
		}
	}
	return false
}

// those: the things of a list of which something holds.
func those[T any](list []T, holds func(T) bool) []T {
	var out []T
	for _, x := range list {
		if holds(x) {
			out = append(out, x)
		}
	}
	return out
}

// gone: what a going gives, up to so many things; the one that stops it is among them.
func gone[T any](seq iter.Seq[T], most int) []T {
	var out []T
	for x := range seq {
		out = append(out, x)
		if len(out) == most {
			break
		}
	}
	return out
}

// all is more than any going here gives.
const all = 1 << 30

// pair is a key and its value.
type pair[K, V any] struct {
	k K
	v V
}

// gone2: as gone, of keys and values.
func gone2[K, V any](seq iter.Seq2[K, V], most int) []pair[K, V] {
	var out []pair[K, V]
	for k, v := range seq {
		out = append(out, pair[K, V]{k, v})
		if len(out) == most {
			break
		}
	}
	return out
}

// is checks that two lists have the same things.
func is[T comparable](t *testing.T, what string, got, want []T) {
	t.Helper()
	if !slices.Equal(got, want) {
		t.Errorf("%s: %.100v, not %.100v", what, got, want)
	}
}

// truth checks an answer that is true or false.
func truth(t *testing.T, what string, got, want bool) {
	t.Helper()
	if got != want {
		t.Errorf("%s: %v", what, got)
	}
}

// atIs checks what At answers.
func atIs[T cmp.Ordered](t *testing.T, s *shelf.Set[T], i int, want []T) {
	t.Helper()
	var x T
	ok := i >= 0 && i < len(want)
	if ok {
		x = want[i]
	}
	if got, there := s.At(i); got != x || there != ok {
		t.Errorf("At(%d) of %.100v: %v, %v", i, want, got, there)
	}
}

// setIs checks all that a set tells, of its own things and of others.
func setIs[T cmp.Ordered](t *testing.T, s *shelf.Set[T], want, others []T) {
	t.Helper()
	if s.Len() != len(want) {
		t.Errorf("Len of %.100v: %d", want, s.Len())
	}
	is(t, "List", s.List(), want)
	is(t, "All", gone(s.All(), all), want)
	for i := -2; i < len(want)+3; i++ {
		atIs(t, s, i, want)
	}
	for _, i := range []int{math.MinInt, math.MinInt + 1, math.MinInt32, math.MaxInt32, math.MaxInt - 1, math.MaxInt} {
		atIs(t, s, i, want)
	}
	for _, x := range slices.Concat(want, others) {
		truth(t, fmt.Sprintf("Has(%v) of %.100v", x, want), s.Has(x), has(want, x))
		is(t, fmt.Sprintf("From(%v)", x), gone(s.From(x), all), those(want, func(y T) bool { return y >= x }))
	}
}

// mapIs checks all that a map tells, of its own keys and of others.
func mapIs[K cmp.Ordered, V comparable](t *testing.T, m *shelf.Map[K, V], want []pair[K, V], others []K) {
	t.Helper()
	if m.Len() != len(want) {
		t.Errorf("Len of %.100v: %d", want, m.Len())
	}
	var keys []K
	for _, p := range want {
		keys = append(keys, p.k)
		if v, ok := m.Get(p.k); v != p.v || !ok {
			t.Errorf("Get(%v): %v, %v; not %v", p.k, v, ok, p.v)
		}
	}
	is(t, "Keys", m.Keys(), keys)
	is(t, "All", gone2(m.All(), all), want)
	var zero V
	for _, k := range others {
		if v, ok := m.Get(k); !has(keys, k) && (v != zero || ok) {
			t.Errorf("Get(%v): %v, %v; it has none", k, v, ok)
		}
	}
}

// Things of some types, rising, the least and the greatest among them.

func ints() []int {
	return []int{math.MinInt, math.MinInt + 1, math.MinInt32, -256, -2, -1, 0, 1, 2, 3, 255, 256, math.MaxInt32, math.MaxInt - 1, math.MaxInt}
}

func floats() []float64 {
	return []float64{math.Inf(-1), -math.MaxFloat64, -1.5, -1, -math.SmallestNonzeroFloat64, 0, math.SmallestNonzeroFloat64, 0.5, 1, 1 << 53, math.MaxFloat64, math.Inf(1)}
}

func texts() []string {
	return []string{"", "\x00", "\x00\x00", "\x00a", "\x01", " ", "0", "10", "9", "A", "Z", "a", "a\x00", "a\x00b", "a/b", "aa", "aaa", "ab", "abc", "b",
		"ba", "z", "~", "\x7f", "\x80", "é", "€", "\U0001f5dd", "\xfe", "\xff", "\xff\x00", "\xff\xff"}
}

// kind is a type of numbers with a name of its own, of which there are few enough to take them all.
type kind int8

func kinds() []kind {
	var out []kind
	for n := math.MinInt8; n <= math.MaxInt8; n++ {
		out = append(out, kind(n))
	}
	return out
}

// ofAll does something with things of each of these types.
func ofAll(t *testing.T, do func(t *testing.T, name string)) {
	for _, name := range []string{"ints", "floats", "texts", "kinds"} {
		t.Run(name, func(t *testing.T) { do(t, name) })
	}
}

// mixed: a list in another order, by a rule.
func mixed[T any](list []T, seed int64) []T {
	out := slices.Clone(list)
	rand.New(rand.NewSource(seed)).Shuffle(len(out), func(i, k int) { out[i], out[k] = out[k], out[i] })
	return out
}

// falling: a list the other way round.
func falling[T any](list []T) []T {
	out := slices.Clone(list)
	slices.Reverse(out)
	return out
}

// P8.1, P8.2, P8.3: the chapter's examples.
func TestExamples(t *testing.T) {
	s := shelf.Of(3, 1, 3)
	is(t, "List", s.List(), []int{1, 3})
	truth(t, "Add(2)", s.Add(2), true)
	truth(t, "Add(2)", s.Add(2), false)
	if x, ok := s.At(1); x != 2 || !ok {
		t.Error("At(1):", x, ok)
	}
	is(t, "Minus", shelf.Minus(shelf.Of(1, 2, 3), shelf.Of(2)).List(), []int{1, 3})
}

// ofIs: Of some things, rising, falling, mixed, and each several times.
func ofIs[T cmp.Ordered](t *testing.T, list []T) {
	setIs(t, shelf.Of[T](), nil, list)
	setIs(t, shelf.Of([]T{}...), nil, list)
	for _, x := range list {
		setIs(t, shelf.Of(x), []T{x}, list)
		setIs(t, shelf.Of(x, x), []T{x}, list)
		setIs(t, shelf.Of(x, x, x, x, x), []T{x}, list)
	}
	for n := range len(list) + 1 {
		some := list[:n]
		setIs(t, shelf.Of(some...), some, list)
		setIs(t, shelf.Of(falling(some)...), some, list)
		setIs(t, shelf.Of(mixed(some, int64(n))...), some, list)
		setIs(t, shelf.Of(mixed(slices.Repeat(some, 3), int64(n))...), some, list)
	}
}

// P8.1, P8.2: the set of a list.
func TestOf(t *testing.T) {
	ofAll(t, func(t *testing.T, name string) {
		switch name {
		case "ints":
			ofIs(t, ints())
		case "floats":
			ofIs(t, floats())
		case "texts":
			ofIs(t, texts())
		case "kinds":
			ofIs(t, kinds()[:12])
			ofIs(t, kinds()[244:])
			setIs(t, shelf.Of(mixed(kinds(), 1)...), kinds(), nil)
		}
	})
}

// P8.1: the order of texts is that of their bytes, the shorter one of two that begin alike first.
func TestTextsStandAsTheirBytes(t *testing.T) {
	list := shelf.Of(mixed(texts(), 5)...).List()
	is(t, "List", list, texts())
	for k := 1; k < len(list); k++ {
		if bytes.Compare([]byte(list[k-1]), []byte(list[k])) >= 0 {
			t.Errorf("%q stands ahead of %q", list[k-1], list[k])
		}
	}
	var one []string
	for c := range 256 {
		one = append(one, string([]byte{byte(c)}))
	}
	is(t, "List", shelf.Of(mixed(one, 1)...).List(), one)
	m := shelf.New[string, int]()
	for k, s := range mixed(texts(), 6) {
		m.Put(s, k)
	}
	is(t, "Keys", m.Keys(), texts())
}

// P8.1: numbers of the types at whose ends they go round.
func TestNumbersAtTheEnds(t *testing.T) {
	is(t, "uint8", shelf.Of[uint8](255, 0, 128, 127, 255, 0).List(), []uint8{0, 127, 128, 255})
	is(t, "int8", shelf.Of[int8](127, -128, 0, -1, 127, -128).List(), []int8{-128, -1, 0, 127})
	is(t, "uint16", shelf.Of[uint16](65535, 0, 32768, 32767).List(), []uint16{0, 32767, 32768, 65535})
	is(t, "int32", shelf.Of[int32](math.MaxInt32, 0, math.MinInt32).List(), []int32{math.MinInt32, 0, math.MaxInt32})
	is(t, "int64", shelf.Of[int64](math.MaxInt64, 0, math.MinInt64).List(), []int64{math.MinInt64, 0, math.MaxInt64})
	is(t, "uint64", shelf.Of[uint64](math.MaxUint64, 0, 1<<63, 1<<63-1).List(), []uint64{0, 1<<63 - 1, 1 << 63, math.MaxUint64})
	is(t, "uint", shelf.Of[uint](math.MaxUint, 0, 1).List(), []uint{0, 1, math.MaxUint})
	is(t, "uintptr", shelf.Of(^uintptr(0), 0, 1).List(), []uintptr{0, 1, ^uintptr(0)})
	is(t, "float32", shelf.Of[float32](math.MaxFloat32, 0, -1, float32(math.Inf(1)), float32(math.Inf(-1))).List(),
		[]float32{float32(math.Inf(-1)), -1, 0, math.MaxFloat32, float32(math.Inf(1))})
	nought := math.Copysign(0, -1)
	s := shelf.Of(0, nought)
	truth(t, "Add of the other nought", s.Add(nought), false)
	truth(t, "Has of it", s.Has(nought) && s.Len() == 1, true)
	truth(t, "Del of it", s.Del(nought) && s.Len() == 0, true)
}

// P8.1: Add and Del of each thing, of a set with it and of one without it, at all places.
func TestAddAndDelAtEachPlace(t *testing.T) {
	for n := range 12 {
		var list, near []int
		for k := range n {
			list = append(list, 10*k)
		}
		for x := -11; x <= 10*n+1; x++ {
			near = append(near, x)
		}
		for _, x := range near {
			what := fmt.Sprintf("%d, of %d things", x, n)
			there := has(list, x)
			s := shelf.Of(list...)
			truth(t, "Add of "+what, s.Add(x), !there)
			setIs(t, s, once(slices.Concat(list, []int{x})), []int{x, -100, 1000})
			truth(t, "Add again of "+what, s.Add(x), false)
			truth(t, "Del of "+what, s.Del(x), true)
			setIs(t, s, those(list, func(y int) bool { return y != x }), []int{x})
			truth(t, "Del again of "+what, s.Del(x), false)
			truth(t, "Has of "+what, s.Has(x), false)
			s = shelf.Of(list...)
			truth(t, "Del of "+what, s.Del(x), there)
			setIs(t, s, those(list, func(y int) bool { return y != x }), []int{x})
		}
	}
}

// growAndShrink: things added one by one, and taken away in another order.
func growAndShrink[T cmp.Ordered](t *testing.T, come, leave []T) {
	t.Helper()
	s := shelf.Of[T]()
	for k, x := range come {
		truth(t, "Add", s.Add(x), true)
		truth(t, "Add again", s.Add(x), false)
		is(t, "List", s.List(), once(come[:k+1]))
	}
	setIs(t, s, once(come), nil)
	for k, x := range leave {
		truth(t, "Del", s.Del(x), true)
		truth(t, "Del again", s.Del(x), false)
		is(t, "List", s.List(), once(leave[k+1:]))
	}
	setIs(t, s, nil, come)
}

// P8.1: sets that grow and shrink, in all orders.
func TestGrowAndShrink(t *testing.T) {
	orders := func(list []kind) [][]kind {
		return [][]kind{list, falling(list), mixed(list, 1), mixed(list, 2)}
	}
	for _, come := range orders(kinds()) {
		for _, leave := range orders(kinds()) {
			growAndShrink(t, come, leave)
		}
	}
	growAndShrink(t, texts(), texts())
	growAndShrink(t, mixed(texts(), 3), falling(texts()))
	growAndShrink(t, falling(floats()), mixed(floats(), 4))
	growAndShrink(t, mixed(ints(), 5), ints())
}

// P8.1, P8.2: many changes by a rule, held against a plain list.
func TestManyChangesOfASet(t *testing.T) {
	for seed := range 20 {
		r := rand.New(rand.NewSource(int64(seed)))
		s := shelf.Of[int]()
		var want []int
		for range 600 {
			x := r.Intn(5 + 8*seed)
			there := has(want, x)
			if r.Intn(3) > 0 {
				truth(t, "Add", s.Add(x), !there)
				want = once(append(want, x))
			} else {
				truth(t, "Del", s.Del(x), there)
				want = those(want, func(y int) bool { return y != x })
			}
			is(t, "List", s.List(), want)
			truth(t, "Has", s.Has(x), has(want, x))
			is(t, "From", gone(s.From(x), all), those(want, func(y int) bool { return y >= x }))
			atIs(t, s, x, want)
		}
		setIs(t, s, want, []int{-1, 3, 1000})
	}
}

// P8.1: the places at the ends, of sets of no, one and some things.
func TestAtTheEnds(t *testing.T) {
	for n := range 6 {
		var list []string
		for k := range n {
			list = append(list, strings.Repeat("x", k+1))
		}
		s := shelf.Of(list...)
		for _, i := range []int{math.MinInt, -n - 1, -n, -1, 0, n - 1, n, n + 1, 2 * n, math.MaxInt} {
			atIs(t, s, i, list)
		}
	}
}

// P8.2: From a thing that is there, between two, below all and above all.
func TestFrom(t *testing.T) {
	s := shelf.Of("b", "d", "f")
	for _, c := range []struct {
		from string
		want []string
	}{
		{"", []string{"b", "d", "f"}}, {"a", []string{"b", "d", "f"}}, {"azz", []string{"b", "d", "f"}}, {"b", []string{"b", "d", "f"}},
		{"b\x00", []string{"d", "f"}}, {"c", []string{"d", "f"}}, {"d", []string{"d", "f"}}, {"e", []string{"f"}}, {"f", []string{"f"}},
		{"f\x00", nil}, {"g", nil}, {"\xff", nil},
	} {
		is(t, "From "+c.from, gone(s.From(c.from), all), c.want)
	}
	n := shelf.Of(ints()...)
	is(t, "From the least", gone(n.From(math.MinInt), all), ints())
	is(t, "From the greatest", gone(n.From(math.MaxInt), all), []int{math.MaxInt})
	n.Del(math.MaxInt)
	is(t, "From the greatest, without it", gone(n.From(math.MaxInt), all), nil)
	for _, x := range []int{0, math.MinInt, math.MaxInt} {
		is(t, "From of nothing", gone(shelf.Of[int]().From(x), all), nil)
	}
}

// P8.2, rule 8: a going is stopped at each thing, and begun again, from one iterator.
func TestGoingsAreStoppedAndBegunAgain(t *testing.T) {
	for n := range 20 {
		var list []int
		m := shelf.New[int, int]()
		var pairs []pair[int, int]
		for k := range n {
			list = append(list, 2*k)
			m.Put(2*k, -k)
			pairs = append(pairs, pair[int, int]{2 * k, -k})
		}
		s := shelf.Of(list...)
		every, keysAndValues := s.All(), m.All()
		for most := 1; most <= n; most++ {
			is(t, "All, stopped", gone(every, most), list[:most])
			is(t, "All of a map, stopped", gone2(keysAndValues, most), pairs[:most])
			for begin := range most {
				from := s.From(2*begin - 1)
				is(t, "From, stopped", gone(from, most-begin), list[begin:most])
				is(t, "From, begun again", gone(from, all), list[begin:])
			}
		}
		is(t, "All, begun again", gone(every, all), list)
		is(t, "All of a map, begun again", gone2(keysAndValues, all), pairs)
		setIs(t, s, list, nil)
		mapIs(t, m, pairs, nil)
	}
}

// P8.2, rule 8: what was refused isn't followed by anything.
func TestNothingComesBehindARefusal(t *testing.T) {
	s := shelf.Of(kinds()...)
	m := shelf.New[kind, int]()
	for _, k := range kinds() {
		m.Put(k, 1)
	}
	for most := 1; most <= s.Len()+1; most++ {
		calls := 0
		refuse := func(kind) bool { calls++; return calls < most }
		s.All()(refuse)
		want := min(most, s.Len())
		if calls != want {
			t.Errorf("All: %d, not %d", calls, want)
		}
		calls = 0
		s.From(math.MinInt8)(refuse)
		if calls != want {
			t.Errorf("From: %d, not %d", calls, want)
		}
		calls = 0
		m.All()(func(kind, int) bool { calls++; return calls < most })
		if calls != want {
			t.Errorf("All of a map: %d, not %d", calls, want)
		}
	}
}

// P8.2: two goings of one iterator, one within the other, don't know of one another.
func TestGoingsWithinGoings(t *testing.T) {
	s := shelf.Of(1, 2, 3)
	every := s.All()
	var got []int
	for x := range every {
		for y := range every {
			if y > x {
				break
			}
			got = append(got, 10*x+y)
		}
	}
	is(t, "within", got, []int{11, 21, 22, 31, 32, 33})
}

// P8.2: a going gives things as they were when it began, whatever is changed at whichever of them; the next one gives them as they are then.
func TestASetIsChangedWhileItIsGoneOver(t *testing.T) {
	changes := []func(s *shelf.Set[int], x int){
		func(s *shelf.Set[int], x int) { s.Del(x) },
		func(s *shelf.Set[int], x int) { s.Del(x + 10) },
		func(s *shelf.Set[int], x int) { s.Del(x - 10) },
		func(s *shelf.Set[int], x int) { s.Add(x + 1) },
		func(s *shelf.Set[int], x int) { s.Add(x - 1) },
		func(s *shelf.Set[int], x int) { s.Add(-x); s.Add(x + 1000) },
		func(s *shelf.Set[int], x int) { s.Del(x); s.Add(x + 5); s.Add(x); s.Del(x + 5) },
		func(s *shelf.Set[int], x int) {
			for _, y := range s.List() {
				s.Del(y)
			}
		},
		func(s *shelf.Set[int], x int) {
			for k := range 40 {
				s.Add(x + k)
			}
		},
	}
	for n := 1; n < 16; n++ {
		var list []int
		for k := range n {
			list = append(list, 10*k)
		}
		for c, change := range changes {
			for at := range list {
				for _, begin := range []int{-5, 0, 10, 55} {
					what := fmt.Sprintf("%d things, change %d at %d, from %d", n, c, at, begin)
					s := shelf.Of(list...)
					seqs := []iter.Seq[int]{s.All(), s.From(begin)}
					for _, seq := range seqs {
						was := gone(seq, all)
						var got []int
						for x := range seq {
							if got = append(got, x); len(got) > at {
								change(s, x)
							}
						}
						is(t, what, got, was)
					}
					is(t, what+", again", gone(seqs[0], all), s.List())
					is(t, what+", again", gone(seqs[1], all), those(s.List(), func(y int) bool { return y >= begin }))
				}
			}
		}
	}
}

// P8.2: what counts is when the going began, not when the iterator was made.
func TestChangesAheadOfAGoingShow(t *testing.T) {
	s := shelf.Of(1, 3)
	every, from := s.All(), s.From(2)
	s.Add(2)
	s.Del(3)
	is(t, "All", gone(every, all), []int{1, 2})
	is(t, "From", gone(from, all), []int{2})
	s.Del(2)
	s.Add(0)
	s.Add(5)
	is(t, "All, again", gone(every, all), []int{0, 1, 5})
	is(t, "From, again", gone(from, all), []int{5})
	m := shelf.New[int, string]()
	pairs := m.All()
	is(t, "All of a map", gone2(pairs, all), nil)
	m.Put(1, "a")
	is(t, "All of a map, again", gone2(pairs, all), []pair[int, string]{{1, "a"}})
	m.Put(1, "b")
	is(t, "All of a map, again", gone2(pairs, all), []pair[int, string]{{1, "b"}})
	m.Del(1)
	is(t, "All of a map, again", gone2(pairs, all), nil)
}

// joinsAre checks what two sets give, and that they stay as they were.
func joinsAre[T cmp.Ordered](t *testing.T, a, b *shelf.Set[T], others []T) {
	t.Helper()
	x, y := a.List(), b.List()
	inX := func(z T) bool { return has(x, z) }
	inY := func(z T) bool { return has(y, z) }
	notInY := func(z T) bool { return !has(y, z) }
	setIs(t, shelf.Union(a, b), once(slices.Concat(x, y)), others)
	setIs(t, shelf.Meet(a, b), those(x, inY), others)
	setIs(t, shelf.Meet(a, b), those(y, inX), others)
	setIs(t, shelf.Minus(a, b), those(x, notInY), others)
	truth(t, fmt.Sprintf("Within %v, %v", x, y), shelf.Within(a, b), len(those(x, notInY)) == 0)
	is(t, "a", a.List(), x)
	is(t, "b", b.List(), y)
}

// P8.3: all pairs of the sets of some things, nil ones too, and each with itself.
func TestJoinsOfAllPairs(t *testing.T) {
	things := []string{"", "a", "aa", "b", "\xff"}
	sets := []*shelf.Set[string]{nil}
	for bits := range 1 << len(things) {
		s := shelf.Of[string]()
		for k, x := range things {
			if bits>>k&1 == 1 {
				s.Add(x)
			}
		}
		sets = append(sets, s)
	}
	for _, a := range sets {
		for _, b := range sets {
			joinsAre(t, a, b, things)
		}
	}
}

// P8.3: greater sets, that share all, some and nothing.
func TestJoinsOfGreaterSets(t *testing.T) {
	stretch := func(begin, end, step int) *shelf.Set[int] {
		s := shelf.Of[int]()
		for x := begin; x < end; x += step {
			s.Add(x)
		}
		return s
	}
	sets := []*shelf.Set[int]{nil, shelf.Of[int](), stretch(0, 90, 1), stretch(0, 90, 2), stretch(1, 90, 2), stretch(0, 90, 3), stretch(90, 150, 1),
		stretch(-50, 50, 1), stretch(40, 60, 1), stretch(89, 90, 1), stretch(0, 1, 1), shelf.Of(ints()...)}
	for _, a := range sets {
		for _, b := range sets {
			joinsAre(t, a, b, []int{-1, 0, 89, 90})
		}
	}
	a, b := stretch(0, 10, 1), stretch(0, 10, 1)
	truth(t, "Within itself", shelf.Within(a, a), true)
	truth(t, "Within its like", shelf.Within(a, b) && shelf.Within(b, a), true)
	b.Del(9)
	truth(t, "Within one less at the end", shelf.Within(a, b), false)
	b.Add(9)
	b.Del(0)
	truth(t, "Within one less at the beginning", shelf.Within(a, b), false)
}

// P8.3, P8.5: the sets answered are of their own, when a set meets itself, nothing or nil, too.
func TestSetsAnsweredAreOfTheirOwn(t *testing.T) {
	joins := []func(a, b *shelf.Set[int]) *shelf.Set[int]{shelf.Union[int], shelf.Meet[int], shelf.Minus[int]}
	for k, join := range joins {
		some, more := shelf.Of(1, 2, 3), shelf.Of(2, 3, 4)
		for _, p := range [][2]*shelf.Set[int]{{some, more}, {some, some}, {some, nil}, {nil, some}, {nil, nil}, {some, shelf.Of[int]()}, {shelf.Of[int](), some}} {
			what := fmt.Sprintf("join %d of %v, %v", k, p[0].List(), p[1].List())
			s, twin := join(p[0], p[1]), join(p[0], p[1])
			if s == nil || s == twin || s == p[0] || s == p[1] {
				t.Fatal(what + " is no set of its own")
			}
			was := twin.List()
			truth(t, what+": Add", s.Add(9), true)
			s.Del(2)
			is(t, what+": another answer", twin.List(), was)
			is(t, what+": a", some.List(), []int{1, 2, 3})
			is(t, what+": b", more.List(), []int{2, 3, 4})
		}
		s := join(some, more)
		was := s.List()
		some.Add(0)
		some.Del(1)
		some.Del(2)
		more.Add(7)
		more.Del(3)
		is(t, "the answer, when a and b change", s.List(), was)
	}
}

// P8.5: two sets of one list, and two maps, know nothing of one another.
func TestSetsAndMapsKnowNothingOfOneAnother(t *testing.T) {
	list := []int{1, 2, 3}
	a, b := shelf.Of(list...), shelf.Of(list...)
	a.Add(4)
	a.Del(1)
	is(t, "b", b.List(), []int{1, 2, 3})
	x, y := shelf.New[int, int](), shelf.New[int, int]()
	if x == y {
		t.Fatal("New twice is one map")
	}
	x.Put(1, 1)
	is(t, "y", y.Keys(), nil)
	y.Put(1, 2)
	y.Put(2, 2)
	is(t, "x", gone2(x.All(), all), []pair[int, int]{{1, 1}})
	y.Del(1)
	is(t, "x", gone2(x.All(), all), []pair[int, int]{{1, 1}})
}

// spoil changes a list, and all its spare room.
func spoil[T any](list []T, x T) {
	list = list[:cap(list)]
	for k := range list {
		list[k] = x
	}
}

// P8.5, rule 3: a list handed in isn't changed nor kept, its spare room neither.
func TestListsHandedIn(t *testing.T) {
	for n := range 20 {
		room := mixed([]int{9, 3, 7, 3, 1, 9, 8, 2, 6, 4, 5, 0, 3, 3, 3, 3, 11, 10, 12, 13}, int64(n))
		before := slices.Clone(room)
		s := shelf.Of(room[:n]...)
		is(t, "the list", room, before)
		s.Add(77)
		s.Del(3)
		is(t, "the list, when the set changes", room, before)
		want := s.List()
		spoil(room, 55)
		is(t, "the set, when the list changes", s.List(), want)
	}
}

// P8.5, rule 3: a list answered is new memory.
func TestListsAnswered(t *testing.T) {
	for n := range 20 {
		s := shelf.Of[int]()
		m := shelf.New[int, int]()
		var want []int
		for k := range n {
			s.Add(k)
			m.Put(k, k)
			want = append(want, k)
		}
		for range 2 {
			one, other, keys, others := s.List(), s.List(), m.Keys(), m.Keys()
			spoil(one, -7)
			spoil(keys, -7)
			is(t, "another List", other, want)
			is(t, "other Keys", others, want)
			_ = append(other, 99)
			_ = append(others, 99)
			setIs(t, s, want, []int{-7, 99})
			is(t, "Keys", m.Keys(), want)
			is(t, "values", gone2(m.All(), all), pairsOf(want))
		}
		list := s.List()
		s.Add(100)
		s.Del(0)
		is(t, "a List, when the set changes", list, want)
	}
}

// pairsOf: each key under itself.
func pairsOf(keys []int) []pair[int, int] {
	var out []pair[int, int]
	for _, k := range keys {
		out = append(out, pair[int, int]{k, k})
	}
	return out
}

// P8.4: a map of nothing, and what is put, put over, taken away and put again.
func TestPutGetDel(t *testing.T) {
	m := shelf.New[string, int]()
	mapIs(t, m, nil, []string{"", "a"})
	truth(t, "Del of nothing", m.Del("a"), false)
	truth(t, "Put", m.Put("a", 1), true)
	truth(t, "Put over it", m.Put("a", 2), false)
	truth(t, "Put over it the same", m.Put("a", 2), false)
	mapIs(t, m, []pair[string, int]{{"a", 2}}, []string{"", "b", "a\x00"})
	truth(t, "Put the zero value", m.Put("", 0), true)
	mapIs(t, m, []pair[string, int]{{"", 0}, {"a", 2}}, nil)
	truth(t, "Put over a value the zero value", m.Put("a", 0), false)
	mapIs(t, m, []pair[string, int]{{"", 0}, {"a", 0}}, nil)
	truth(t, "Del of another", m.Del("b"), false)
	truth(t, "Del", m.Del("a"), true)
	truth(t, "Del again", m.Del("a"), false)
	mapIs(t, m, []pair[string, int]{{"", 0}}, []string{"a"})
	truth(t, "Put again", m.Put("a", 5), true)
	mapIs(t, m, []pair[string, int]{{"", 0}, {"a", 5}}, nil)
	truth(t, "Del of both", m.Del("") && m.Del("a"), true)
	mapIs(t, m, nil, []string{"", "a"})
}

// P8.4: Put and Del of each key, of a map with it and of one without it, at all places.
func TestPutAndDelAtEachPlace(t *testing.T) {
	for n := range 10 {
		for x := -3; x <= 4*n+1; x++ {
			m := shelf.New[int, string]()
			var without, with []pair[int, string]
			there := false
			for k := range n {
				m.Put(4*k, "old")
				if 4*k > x && len(with) == len(without) {
					with = append(with, pair[int, string]{x, "new"})
				}
				if 4*k == x {
					there = true
					continue
				}
				without = append(without, pair[int, string]{4 * k, "old"})
				with = append(with, pair[int, string]{4 * k, "old"})
			}
			if len(with) == len(without) {
				with = append(with, pair[int, string]{x, "new"})
			}
			truth(t, "Put", m.Put(x, "new"), !there)
			mapIs(t, m, with, []int{x - 1, x + 1})
			truth(t, "Del", m.Del(x), true)
			mapIs(t, m, without, []int{x})
			truth(t, "Del again", m.Del(x), false)
			mapIs(t, m, without, []int{x})
		}
	}
}

// P8.4: many changes by a rule, held against a map of the language.
func TestManyChangesOfAMap(t *testing.T) {
	for seed := range 20 {
		r := rand.New(rand.NewSource(int64(seed)))
		m := shelf.New[kind, string]()
		want := map[kind]string{}
		for n := range 500 {
			k := kind(r.Intn(4+12*seed) - 128)
			v := fmt.Sprint(n)
			_, there := want[k]
			if r.Intn(3) > 0 {
				truth(t, "Put", m.Put(k, v), !there)
				want[k] = v
			} else {
				truth(t, "Del", m.Del(k), there)
				delete(want, k)
			}
			if n%25 == 0 {
				mapIs(t, m, pairsIn(want), kinds())
			}
		}
		mapIs(t, m, pairsIn(want), kinds())
	}
}

// pairsIn: what a map of the language has, rising.
func pairsIn(m map[kind]string) []pair[kind, string] {
	var out []pair[kind, string]
	for _, k := range kinds() {
		if v, ok := m[k]; ok {
			out = append(out, pair[kind, string]{k, v})
		}
	}
	return out
}

// P8.4: a going over a map gives keys and values as they were when it began; the next one as they are then.
func TestAMapIsChangedWhileItIsGoneOver(t *testing.T) {
	changes := []func(m *shelf.Map[int, string], k int){
		func(m *shelf.Map[int, string], k int) { m.Put(k, "new") },
		func(m *shelf.Map[int, string], k int) { m.Put(k+10, "new") },
		func(m *shelf.Map[int, string], k int) { m.Put(k-10, "new") },
		func(m *shelf.Map[int, string], k int) { m.Put(k+5, "new") },
		func(m *shelf.Map[int, string], k int) { m.Del(k) },
		func(m *shelf.Map[int, string], k int) { m.Del(k + 10) },
		func(m *shelf.Map[int, string], k int) { m.Del(k + 10); m.Put(k+10, "again") },
		func(m *shelf.Map[int, string], k int) {
			for _, key := range m.Keys() {
				m.Put(key, "new")
			}
		},
		func(m *shelf.Map[int, string], k int) {
			for _, key := range m.Keys() {
				m.Del(key)
			}
		},
	}
	for n := 1; n < 16; n++ {
		for c, change := range changes {
			for at := range n {
				m := shelf.New[int, string]()
				for k := range n {
					m.Put(10*k, "old")
				}
				seq := m.All()
				was := gone2(seq, all)
				var got []pair[int, string]
				for k, v := range seq {
					if got = append(got, pair[int, string]{k, v}); len(got) > at {
						change(m, k)
					}
				}
				what := fmt.Sprintf("%d keys, change %d at %d", n, c, at)
				is(t, what, got, was)
				var now []pair[int, string]
				for _, k := range m.Keys() {
					v, _ := m.Get(k)
					now = append(now, pair[int, string]{k, v})
				}
				is(t, what+", again", gone2(seq, all), now)
			}
		}
	}
}

// P8.5: values are kept as they are handed in: what they point to is what the map's user knows.
func TestValuesAreKeptAsTheyAre(t *testing.T) {
	m := shelf.New[int, []int]()
	list := []int{1, 2}
	m.Put(1, list)
	m.Put(2, nil)
	list[0] = 7
	if v, ok := m.Get(1); !ok || len(v) != 2 || v[0] != 7 {
		t.Error(v, ok)
	}
	if v, ok := m.Get(2); !ok || v != nil {
		t.Error(v, ok)
	}
	p := shelf.New[string, *shelf.Set[string]]()
	s := shelf.Of("a")
	p.Put("s", s)
	s.Add("b")
	if got, ok := p.Get("s"); got != s || !ok || got.Len() != 2 {
		t.Error(got, ok)
	}
	f := shelf.New[int, func() int]()
	f.Put(1, func() int { return 5 })
	if g, ok := f.Get(1); !ok || g() != 5 {
		t.Error("a function")
	}
	if g, ok := f.Get(2); ok || g != nil {
		t.Error("no function")
	}
}

// P1, rule 5: a nil set in every call.
func TestNilSet(t *testing.T) {
	var none *shelf.Set[string]
	for range 2 {
		setIs(t, none, nil, texts())
		for _, x := range texts() {
			truth(t, "Add", none.Add(x), false)
			truth(t, "Del", none.Del(x), false)
		}
	}
	some := shelf.Of("a", "b")
	setIs(t, shelf.Union(none, some), []string{"a", "b"}, texts())
	setIs(t, shelf.Union(some, none), []string{"a", "b"}, texts())
	setIs(t, shelf.Minus(some, none), []string{"a", "b"}, texts())
	for _, s := range []*shelf.Set[string]{shelf.Union(none, none), shelf.Meet(none, none), shelf.Minus(none, none), shelf.Meet(none, some),
		shelf.Meet(some, none), shelf.Minus(none, some)} {
		setIs(t, s, nil, texts())
		truth(t, "Add to the answer", s.Add("x"), true)
		setIs(t, s, []string{"x"}, texts())
	}
	truth(t, "Within(nil, nil)", shelf.Within(none, none), true)
	truth(t, "Within(nil, some)", shelf.Within(none, some), true)
	truth(t, "Within(nil, empty)", shelf.Within(none, shelf.Of[string]()), true)
	truth(t, "Within(empty, nil)", shelf.Within(shelf.Of[string](), none), true)
	truth(t, "Within(some, nil)", shelf.Within(some, none), false)
	setIs(t, some, []string{"a", "b"}, texts())
}

// P1, rule 5: a nil map in every call.
func TestNilMap(t *testing.T) {
	var none *shelf.Map[int, string]
	for range 2 {
		mapIs(t, none, nil, ints())
		for _, k := range ints() {
			truth(t, "Put", none.Put(k, "x"), false)
			truth(t, "Del", none.Del(k), false)
		}
	}
}

// P1: numbers that aren't any: nothing is promised of them, but that the calls end and none panics.
func TestNoNumbers(t *testing.T) {
	nan := math.NaN()
	s := shelf.Of(nan, 1, nan, 2)
	m := shelf.New[float64, int]()
	for _, x := range []float64{nan, 0, nan, 1, 3, nan} {
		s.Add(x)
		s.Has(x)
		s.At(int(min(2, max(0, x))))
		gone(s.From(x), all)
		gone(s.All(), all)
		shelf.Union(s, shelf.Of(x))
		shelf.Meet(s, shelf.Of(x))
		shelf.Minus(s, shelf.Of(x))
		shelf.Within(s, shelf.Of(x))
		s.Del(x)
		m.Put(x, 1)
		m.Get(x)
		gone2(m.All(), all)
		m.Del(x)
	}
}

// P8.1, P8.4: sets and maps of very many things, in orders in which a plain list or a tree that isn't kept low would take far too long.
func TestVeryMany(t *testing.T) {
	if testing.Short() {
		t.Skip("very many things")
	}
	const n = 100_000
	for _, next := range []func(k int) int{
		func(k int) int { return k },
		func(k int) int { return n - k },
		func(k int) int { return k * 7919 % 100_003 },
	} {
		s := shelf.Of[int]()
		m := shelf.New[int, int]()
		for k := range n {
			s.Add(next(k))
			m.Put(next(k), k)
		}
		if s.Len() != n || m.Len() != n || !slices.IsSorted(s.List()) || !slices.Equal(s.List(), m.Keys()) {
			t.Error("not all, or not rising")
		}
		for k := range n {
			if v, ok := m.Get(next(k)); v != k || !ok {
				t.Fatalf("Get: %d, %v; not %d", v, ok, k)
			}
		}
		// The least is asked for and taken away, again and again.
		last := math.MinInt
		for range n {
			x, ok := s.At(0)
			if !ok || x <= last || !s.Del(x) || !m.Del(x) {
				t.Fatalf("the least: %d, %v, behind %d", x, ok, last)
			}
			last = x
		}
		if s.Len() != 0 || m.Len() != 0 {
			t.Error("something is left")
		}
	}
}
