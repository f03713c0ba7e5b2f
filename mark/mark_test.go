package mark_test

import (
	"fmt"
	"math"
	"math/rand"
	"slices"
	"strings"
	"testing"

	"reliquary/api"
	"reliquary/mark"
)

// P12.1, P12.3: the chapter's examples.
func TestExamples(t *testing.T) {
	none := strings.Repeat("\x00", 12)
	if s, code := mark.Encode(api.Marks{}); s != none || code != api.OK {
		t.Errorf("Encode of no marks: %x, %d", s, code)
	}
	if m, code := mark.Decode(none); !same(m, api.Marks{}) || code != api.OK {
		t.Errorf("Decode of no marks: %s, %d", show(m), code)
	}
	if !mark.Sure(acked(tomb(1, 1, 1), 1, 2), 3) || mark.Sure(acked(tomb(1, 1, 1), 1), 3) {
		t.Error("Sure of the Acks 1 and 2, and of 1 alone, of three nodes")
	}
	// Lists of nothing may be nil or empty, all of them.
	m := api.Marks{Refs: []api.Ref{}, Tokens: []api.Token{}, Tombs: []api.Tomb{{Node: 1, N: 1, Id: id(1), Covers: []api.Token{}, Acks: []int{}}}}
	one, _ := mark.Encode(m)
	m = ofTombs(api.Tomb{Node: 1, N: 1, Id: id(1)})
	other, code := mark.Encode(m)
	if one != other || code != api.OK {
		t.Errorf("Encode of nil and of empty lists: %x, %x, %d", one, other, code)
	}
	allFit(t, api.Marks{})
	allFit(t, m)
}

// P12.1: the bytes, one by one, by hand.
func TestBytes(t *testing.T) {
	m := api.Marks{
		Refs:   []api.Ref{ref("a", 1, 0), ref("hi", 2, 0x12345678)},
		Tokens: []api.Token{token(1, 1, 3), token(7, 1<<30, 4)},
		Tombs:  []api.Tomb{acked(tomb(2, 0x01020304, 5, token(3, 258, 5), token(3, 65536, 5)), 1, 4, 7), tomb(7, 255, 6)},
	}
	want := "\x02\x00\x00\x00" +
		"\x01\x00\x00\x00a" + id(1) + "\x00\x00\x00\x00" +
		"\x02\x00\x00\x00hi" + id(2) + "\x78\x56\x34\x12" +
		"\x02\x00\x00\x00" +
		"\x01\x00\x00\x00\x01\x00\x00\x00" + id(3) +
		"\x07\x00\x00\x00\x00\x00\x00\x40" + id(4) +
		"\x02\x00\x00\x00" +
		"\x02\x00\x00\x00\x04\x03\x02\x01" + id(5) +
		"\x02\x00\x00\x00\x03\x00\x00\x00\x02\x01\x00\x00\x03\x00\x00\x00\x00\x00\x01\x00" +
		"\x03\x00\x00\x00\x01\x00\x00\x00\x04\x00\x00\x00\x07\x00\x00\x00" +
		"\x07\x00\x00\x00\xff\x00\x00\x00" + id(6) + "\x00\x00\x00\x00\x00\x00\x00\x00"
	if s, code := mark.Encode(m); s != want || code != api.OK {
		t.Errorf("Encode: %x, %d; not %x", s, code, want)
	}
	decodeIs(t, want, m, api.OK)
	allFit(t, m)
}

var (
	goodNames   = []string{"a", "...", " ", "-", ".a", "a.", "..a", "A", "a b", "\n", "\x01", "\\", "é", "\xff", "\xc3", "\x80\xfe", strings.Repeat("n", 255), strings.Repeat("\xff", 255)}
	wrongNames  = []string{"", ".", "..", "/", "a/b", "/a", "a/", "a/b/c", "\x00", "a\x00", "\x00a", "a\x00b", strings.Repeat("n", 256), strings.Repeat("n", 1000), strings.Repeat("n", 254) + "/", strings.Repeat("n", 1<<17)}
	goodIds     = []string{id(0), id(255), id('/'), strings.Repeat("\x00\xff", 16), strings.Repeat("é", 16)}
	wrongIds    = []string{"", "x", strings.Repeat("x", 31), strings.Repeat("x", 33), strings.Repeat("x", 64), strings.Repeat("é", 32), strings.Repeat("x", 1<<17)}
	goodHeights = []int{0, 1, 2, 255, 256, 1 << 16, 1<<30 - 1, 1 << 30}
	goodNs      = goodHeights[1:]
	wrongHigh   = []int{1<<30 + 1, 1<<31 - 1, 1 << 31, 1<<32 - 1, 1 << 32, 1<<32 + 1, 1<<32 + 2, 1<<40 + 1, math.MaxInt - 1, math.MaxInt}
	wrongLow    = []int{-1, -2, -1 << 30, -1 << 31, -1<<32 + 1, -1 << 32, math.MinInt + 1, math.MinInt}
	wrongNodes  = slices.Concat([]int{0, 8, 9, 256 + 1, 1 << 16}, wrongHigh, wrongLow)
	wrongNs     = slices.Concat([]int{0}, wrongHigh, wrongLow)
)

// P12.1: one ref, with each of its fields at its edges.
func TestOneRef(t *testing.T) {
	for _, name := range goodNames {
		allFit(t, ofRefs(ref(name, 1, 2)))
		goodIs(t, ofRefs(ref(name, 1, 2)), true)
	}
	for _, name := range wrongNames {
		allFit(t, ofRefs(ref(name, 1, 2)))
		goodIs(t, ofRefs(ref(name, 1, 2)), false)
	}
	for _, x := range goodIds {
		goodIs(t, ofRefs(api.Ref{Name: "a", Id: x}), true)
	}
	for _, x := range wrongIds {
		allFit(t, ofRefs(api.Ref{Name: "a", Id: x}))
		goodIs(t, ofRefs(api.Ref{Name: "a", Id: x}), false)
	}
	for _, n := range goodHeights {
		goodIs(t, ofRefs(ref("a", 1, n)), true)
	}
	for _, n := range slices.Concat(wrongHigh, wrongLow) {
		allFit(t, ofRefs(ref("a", 1, n)))
		goodIs(t, ofRefs(ref("a", 1, n)), false)
	}
}

// P12.1: two and three refs: their Names rise, whatever else they have.
func TestNamesOfRefs(t *testing.T) {
	for _, c := range []struct {
		names string
		want  bool
	}{
		{"a b", true}, {"b a", false}, {"a a", false},
		{"a ab", true}, {"ab a", false}, {"ab b", true}, {"b ab", false},
		{"Z a", true}, {"a Z", false}, {"10 9", true}, {"9 10", false},
		{"z é", true}, {"é z", false}, {"\x7f \x80", true}, {"\x80 \x7f", false}, {"\xff \xff\x01", true}, {"é \xff", true}, {"\xff é", false},
		{"a.b a-b", false}, {"a-b a.b", true},
		{"a b c", true}, {"a b b", false}, {"a c b", false}, {"b a c", false}, {"a a b", false}, {"a b a", false}, {"c b a", false},
	} {
		for _, heights := range [][]int{{1, 2, 3}, {3, 2, 1}, {2, 2, 2}} {
			var m api.Marks
			for k, name := range strings.Fields(c.names) {
				m.Refs = append(m.Refs, ref(name, byte(heights[k]), heights[k]))
			}
			allFit(t, m)
			goodIs(t, m, c.want)
		}
	}
}

// P12.1: one token and one tomb, with each of their fields at its edges.
func TestOneTokenOneTomb(t *testing.T) {
	check := func(x api.Token, want bool) {
		t.Helper()
		for _, m := range []api.Marks{
			ofTokens(x),
			ofTombs(api.Tomb{Node: x.Node, N: x.N, Id: x.Id}),
			ofTombs(acked(api.Tomb{Node: x.Node, N: x.N, Id: x.Id, Covers: []api.Token{{Node: 2, N: 3, Id: x.Id}}}, 2)),
			ofTombs(api.Tomb{Node: 1, N: 1, Id: x.Id, Covers: []api.Token{x}}),
		} {
			allFit(t, m)
			goodIs(t, m, want)
		}
	}
	for node := 1; node <= 7; node++ {
		for _, n := range goodNs {
			check(token(node, n, 1), true)
		}
	}
	for _, node := range wrongNodes {
		check(token(node, 1, 1), false)
	}
	for _, n := range wrongNs {
		check(token(1, n, 1), false)
	}
	for _, x := range goodIds {
		check(api.Token{Node: 1, N: 1, Id: x}, true)
	}
	for _, x := range wrongIds {
		check(api.Token{Node: 1, N: 1, Id: x}, false)
	}
}

// P12.1: tokens, tombs and Covers of which the order is at fault.
func TestOrderOfTokensAndTombs(t *testing.T) {
	for _, c := range []struct {
		list []api.Token
		want bool
	}{
		{[]api.Token{token(1, 1, 9), token(1, 2, 9)}, true},
		{[]api.Token{token(1, 2, 9), token(1, 1, 9)}, false}, // falls by N
		{[]api.Token{token(1, 9, 9), token(2, 1, 9)}, true},
		{[]api.Token{token(2, 1, 9), token(1, 9, 9)}, false}, // falls by Node
		{[]api.Token{token(2, 9, 9), token(1, 1, 9)}, false},
		{[]api.Token{token(1, 1, 9), token(2, 1, 9)}, true},
		{[]api.Token{token(1, 1, 9), token(1, 1, 9)}, false},
		{[]api.Token{token(1, 1, 9), token(1, 2, 9), token(1, 2, 9)}, false},
		{[]api.Token{token(1, 1, 9), token(1, 2, 9), token(1, 1, 9)}, false},
		{[]api.Token{token(1, 2, 9), token(1, 255, 9), token(1, 256, 9), token(3, 1, 9), token(7, 1<<30-1, 9), token(7, 1<<30, 9)}, true},
	} {
		allFit(t, ofTokens(c.list...))
		goodIs(t, ofTokens(c.list...), c.want)
		allFit(t, ofTombs(tomb(1, 1, 9, c.list...)))
		goodIs(t, ofTombs(tomb(1, 1, 9, c.list...)), c.want)
		var m api.Marks
		for _, x := range c.list {
			m.Tombs = append(m.Tombs, acked(api.Tomb{Node: x.Node, N: x.N, Id: x.Id}, 3))
		}
		allFit(t, m)
		goodIs(t, m, c.want)
	}
}

// P12.1: two that differ in their Id, Covers or Acks alone are one too many; Ids play no part in the order.
func TestIdsPlayNoPartInTheOrder(t *testing.T) {
	for _, ids := range [][]byte{{1, 2}, {2, 1}} {
		goodIs(t, ofTokens(token(1, 1, ids[0]), token(1, 1, ids[1])), false)
		goodIs(t, ofTokens(token(1, 1, ids[0]), token(1, 2, ids[1])), true)
		goodIs(t, ofTombs(tomb(1, 1, ids[0]), tomb(1, 1, ids[1])), false)
		goodIs(t, ofTombs(tomb(1, 1, ids[0]), tomb(1, 2, ids[1])), true)
	}
	goodIs(t, ofTombs(acked(tomb(1, 1, 1), 1), acked(tomb(1, 1, 1), 2)), false)
	goodIs(t, ofTombs(tomb(1, 1, 1, token(1, 1, 1)), tomb(1, 1, 1, token(1, 2, 1))), false)
	// A token and a tomb of one number can stand side by side, and unlike refs at one commit.
	goodIs(t, api.Marks{Tokens: []api.Token{token(1, 1, 1)}, Tombs: []api.Tomb{tomb(1, 1, 1, token(1, 1, 1))}}, true)
	goodIs(t, ofRefs(ref("a", 1, 1), ref("b", 1, 1)), true)
}

// P12.1: Covers have the tomb's Id, and it isn't told by them.
func TestCoversHaveTheTombsId(t *testing.T) {
	goodIs(t, ofTombs(tomb(1, 1, 9, token(1, 1, 9), token(1, 2, 9))), true)
	for _, m := range []api.Marks{
		ofTombs(tomb(1, 1, 9, token(1, 1, 8))),
		ofTombs(tomb(1, 1, 9, token(1, 1, 8), token(1, 2, 9))),
		ofTombs(tomb(1, 1, 9, token(1, 1, 9), token(1, 2, 8))),
		ofTombs(tomb(1, 1, 9, token(1, 1, 9), token(1, 2, 10))),
		ofTombs(tomb(1, 1, 9, api.Token{Node: 1, N: 1})),
		ofTombs(tomb(1, 1, 9, token(1, 1, 9)), tomb(1, 2, 8, token(1, 1, 9))),
		ofTombs(api.Tomb{Node: 1, N: 1, Covers: []api.Token{{Node: 1, N: 1}}}),
		ofTombs(api.Tomb{Node: 1, N: 1, Covers: []api.Token{token(1, 1, 0)}}),
	} {
		allFit(t, m)
		goodIs(t, m, false)
	}
}

// P12.1: Acks: all lists of up to three of some numbers, and long ones.
func TestAcks(t *testing.T) {
	listsOf([]int{0, 1, 2, 6, 7, 8, -1, math.MaxInt, math.MinInt, 1<<32 + 1}, 3, func(acks []int) {
		want := true
		for k, n := range acks {
			want = want && 1 <= n && n <= 7 && (k == 0 || acks[k-1] < n)
		}
		m := ofTombs(acked(tomb(1, 1, 1), acks...))
		goodIs(t, m, want)
		decodeFits(t, layout(m))
	})
	goodIs(t, ofTombs(acked(tomb(1, 1, 1), 1, 2, 3, 4, 5, 6, 7)), true)
	for _, acks := range [][]int{{1, 2, 3, 4, 5, 6, 7, 8}, {0, 1, 2, 3, 4, 5, 6, 7}, {1, 2, 3, 4, 5, 6, 7, 7}, {1, 2, 3, 4, 5, 6, 7, 1}, {7, 6, 5, 4, 3, 2, 1}, {1, 2, 3, 4, 5, 6, 8}, {1, 2, 3, 5, 4, 6, 7}, make([]int, 1000)} {
		allFit(t, ofTombs(acked(tomb(1, 1, 1), acks...)))
		goodIs(t, ofTombs(acked(tomb(1, 1, 1), acks...)), false)
	}
}

// listsOf gives all lists of at most so many things out of some.
func listsOf[T any](things []T, most int, give func([]T)) {
	give(nil)
	if most == 0 {
		return
	}
	for _, x := range things {
		listsOf(things, most-1, func(rest []T) {
			give(append([]T{x}, rest...))
		})
	}
}

// P12.1 to P12.3: all lists of up to three of some tokens, that are right or not, as Tokens, as Covers and as Tombs.
func TestAllShortLists(t *testing.T) {
	things := []api.Token{token(1, 1, 1), token(1, 2, 1), token(2, 1, 1), token(1, 1, 2), token(0, 1, 1), token(1, 0, 1), {Node: 1, N: 3, Id: "x"}}
	most := 3
	if testing.Short() {
		most = 2
	}
	listsOf(things, most, func(list []api.Token) {
		allFit(t, api.Marks{Tokens: list, Tombs: []api.Tomb{acked(tomb(1, 1, 1, token(1, 2, 1), token(2, 1, 1)), 1), acked(tomb(1, 2, 1, token(1, 1, 1)), 2, 4)}})
		allFit(t, api.Marks{Tokens: things[:4], Tombs: []api.Tomb{acked(tomb(2, 1, 1, list...), 1, 2)}})
		var m api.Marks
		for k, x := range list {
			m.Tombs = append(m.Tombs, acked(api.Tomb{Node: x.Node, N: x.N, Id: x.Id, Covers: []api.Token{x}}, slices.Repeat([]int{1}, k)...))
			m.Refs = append(m.Refs, api.Ref{Name: "abc"[:x.N], Id: x.Id, Height: x.Node})
		}
		m.Tokens = things[:4]
		allFit(t, m)
	})
}

// manyRefs, manyTokens, manyTombs: right ones, so many.
func manyRefs(n int) []api.Ref {
	var list []api.Ref
	for k := range n {
		list = append(list, ref(fmt.Sprintf("ref%04d", k), byte(n-k), k))
	}
	return list
}

func manyTokens(n int, b byte) []api.Token {
	var list []api.Token
	for k := range n {
		list = append(list, token(k*7/n+1, k+1, b))
	}
	return list
}

func manyTombs(n int) []api.Tomb {
	var list []api.Tomb
	for k := range n {
		x := acked(tomb(k*7/n+1, k+1, byte(k), manyTokens(k%4, byte(k))...), 1, 2, 3, 4, 5, 6, 7)
		x.Acks = x.Acks[:k%8]
		list = append(list, x)
	}
	return list
}

// full: as much of each as there may be.
func full() api.Marks {
	m := api.Marks{Refs: manyRefs(64), Tokens: manyTokens(256, 9), Tombs: manyTombs(64)}
	for k := range m.Tombs {
		m.Tombs[k].Covers = manyTokens(256, byte(k))
		m.Tombs[k].Acks = []int{1, 2, 3, 4, 5, 6, 7}
	}
	for k := range m.Refs {
		m.Refs[k].Name += strings.Repeat("\xff", 255-len(m.Refs[k].Name))
	}
	return m
}

// P12.1, P12.4: as many of each as there may be, and one more.
func TestAtTheLimits(t *testing.T) {
	for _, c := range []struct {
		m    api.Marks
		want bool
	}{
		{ofRefs(manyRefs(63)...), true},
		{ofRefs(manyRefs(64)...), true},
		{ofRefs(manyRefs(65)...), false},
		{ofTokens(manyTokens(255, 1)...), true},
		{ofTokens(manyTokens(256, 1)...), true},
		{ofTokens(manyTokens(257, 1)...), false},
		{ofTombs(manyTombs(63)...), true},
		{ofTombs(manyTombs(64)...), true},
		{ofTombs(manyTombs(65)...), false},
		{ofTombs(tomb(1, 1, 1, manyTokens(255, 1)...)), true},
		{ofTombs(tomb(1, 1, 1, manyTokens(256, 1)...)), true},
		{ofTombs(tomb(1, 1, 1, manyTokens(257, 1)...)), false},
		{api.Marks{Refs: manyRefs(64), Tokens: manyTokens(256, 1), Tombs: manyTombs(64)}, true},
		{api.Marks{Refs: manyRefs(65), Tokens: manyTokens(256, 1), Tombs: manyTombs(64)}, false},
		{api.Marks{Refs: manyRefs(64), Tokens: manyTokens(257, 1), Tombs: manyTombs(64)}, false},
		{api.Marks{Refs: manyRefs(64), Tokens: manyTokens(256, 1), Tombs: manyTombs(65)}, false},
		{full(), true},
		{ofRefs(make([]api.Ref, 65)...), false},
		{ofTokens(make([]api.Token, 257)...), false},
		{ofTombs(make([]api.Tomb, 65)...), false},
		{ofTokens(manyTokens(1<<12, 1)...), false},
	} {
		goodIs(t, c.m, c.want)
		decodeFits(t, layout(c.m))
	}
}

// P12.1: a fault in one of many, the last one too, and in each list while the others are right.
func TestFaultInOneOfMany(t *testing.T) {
	faults := []func(m *api.Marks, at int){
		func(m *api.Marks, at int) { m.Refs[at%64].Name = "" },
		func(m *api.Marks, at int) { m.Refs[at%64].Name += "/" },
		func(m *api.Marks, at int) { m.Refs[at%64].Id += "x" },
		func(m *api.Marks, at int) { m.Refs[at%64].Height = -1 },
		func(m *api.Marks, at int) { m.Refs[at%64].Height = 1<<30 + 1 },
		func(m *api.Marks, at int) { m.Refs[at%64].Name = m.Refs[max(at%64, 1)-1].Name[:255-at%2] },
		func(m *api.Marks, at int) { m.Tokens[at].Node = 0 },
		func(m *api.Marks, at int) { m.Tokens[at].Node = 8 },
		func(m *api.Marks, at int) { m.Tokens[at].N = 0 },
		func(m *api.Marks, at int) { m.Tokens[at].N = 1<<30 + 1 },
		func(m *api.Marks, at int) { m.Tokens[at].Id = m.Tokens[at].Id[1:] },
		func(m *api.Marks, at int) { m.Tombs[at%64].Node = 8 },
		func(m *api.Marks, at int) { m.Tombs[at%64].N = -5 },
		func(m *api.Marks, at int) { m.Tombs[at%64].Id = id(200) },
		func(m *api.Marks, at int) { m.Tombs[at%64].Id = "" },
		func(m *api.Marks, at int) { m.Tombs[at%64].Acks[6] = 8 },
		func(m *api.Marks, at int) { m.Tombs[at%64].Acks[0] = 2 },
		func(m *api.Marks, at int) { m.Tombs[at%64].Acks[6] = 6 },
		func(m *api.Marks, at int) { m.Tombs[at%64].Covers[at].Id = id(200) },
		func(m *api.Marks, at int) { m.Tombs[at%64].Covers[at].Node = 0 },
		func(m *api.Marks, at int) { m.Tombs[at%64].Covers[at].N = 1<<30 + 1 },
	}
	for _, at := range []int{0, 1, 2, 63, 64, 127, 128, 254, 255} {
		for k, spoil := range faults {
			m := full()
			if spoil(&m, at); areMarks(m) && !(k == 5 && at%64 == 0) {
				t.Fatalf("fault %d at %d is none", k, at)
			}
			goodIs(t, m, areMarks(m))
			if k%3 == 0 {
				decodeFits(t, layout(m))
			}
		}
	}
	for _, at := range []int{1, 2, 63, 255} {
		m := full()
		m.Tokens[at] = m.Tokens[at-1]
		goodIs(t, m, false)
		m = full()
		m.Tombs[at%64].Node, m.Tombs[at%64].N = m.Tombs[at%64-1].Node, m.Tombs[at%64-1].N
		goodIs(t, m, false)
		m = full()
		m.Tombs[63].Covers[at-1], m.Tombs[63].Covers[at] = m.Tombs[63].Covers[at], m.Tombs[63].Covers[at-1]
		goodIs(t, m, false)
	}
}

// some: marks of which each list has something.
func some() api.Marks {
	x, y, z := token(1, 5, 9), token(2, 1, 9), token(2, 3, 4)
	return api.Marks{
		Refs:   []api.Ref{ref("a", 3, 0), ref("b", 9, 1)},
		Tokens: []api.Token{x, y, z},
		Tombs:  []api.Tomb{acked(tomb(3, 4, 9, x, y), 1, 2), tomb(3, 6, 4, z), acked(tomb(4, 1, 4), 3)},
	}
}

// P12.1: bytes that are cut off, that have more behind them, or ahead of them.
func TestDecodeOfTooFewAndTooMany(t *testing.T) {
	for _, m := range []api.Marks{{}, some(), ofRefs(ref("main", 1, 1)), ofTokens(token(1, 1, 1)), ofTombs(acked(tomb(1, 1, 1, token(1, 1, 1)), 1))} {
		s := layout(m)
		decodeIs(t, s, m, api.OK)
		for k := range s {
			decodeIs(t, s[:k], api.Marks{}, api.ErrForm)
			decodeFits(t, s[k:])
		}
		for _, more := range []string{"x", "\x00", "\x00\x00\x00\x00", s, strings.Repeat("\x00", 12), id(1)} {
			decodeIs(t, s+more, api.Marks{}, api.ErrForm)
			decodeFits(t, more+s)
		}
	}
	s := layout(full())
	for _, k := range []int{1, 2, 4, 5, 100, len(s) / 2, len(s) - 4, len(s) - 1, len(s)} {
		decodeIs(t, s[:len(s)-k], api.Marks{}, api.ErrForm)
	}
	for _, s := range []string{"", "\x00", "x", "\x01\x00\x00\x00", strings.Repeat("\x00", 8), strings.Repeat("\x00", 11), strings.Repeat("\x00", 13), strings.Repeat("\x00", 16), strings.Repeat("\xff", 12), strings.Repeat("\x01", 1000)} {
		decodeIs(t, s, api.Marks{}, api.ErrForm)
	}
}

// P12.1: bytes of which one is changed, into each other one.
func TestDecodeOfOneByteChanged(t *testing.T) {
	s := layout(some())
	fine := 0
	for at := range s {
		for c := range 256 {
			changed := s[:at] + string([]byte{byte(c)}) + s[at+1:]
			decodeFits(t, changed)
			if _, code := mark.Decode(changed); code == api.OK {
				fine++
			}
		}
	}
	// Ids may be any, of refs and tombs at least.
	if fine < 5*32*256 {
		t.Errorf("only %d changed texts were decoded", fine)
	}
}

// P12.1: numbers that are greater than what follows, or than any list, text or number may be.
func TestDecodeOfGreaterNumbers(t *testing.T) {
	s := layout(some())
	for at := 0; at+4 <= len(s); at++ {
		for _, n := range []int{0, 1, 2, 3, 7, 8, 63, 64, 65, 255, 256, 257, 1<<30 - 1, 1 << 30, 1<<30 + 1, 1<<31 - 1, 1 << 31, 1<<32 - 1} {
			decodeFits(t, s[:at]+num(n)+s[at+4:])
		}
	}
	zeros := strings.Repeat("\x00", 1<<16)
	for _, n := range []int{64, 65, 256, 257, 1 << 20, 1<<31 - 1, 1 << 31, 1<<32 - 1} {
		for _, s := range []string{num(n), num(n) + zeros, num(0) + num(n), num(0) + num(n) + zeros, num(0) + num(0) + num(n), num(0) + num(0) + num(n) + zeros} {
			decodeIs(t, s, api.Marks{}, api.ErrForm)
		}
		head := num(0) + num(0) + num(1) + num(1) + num(1) + id(1)
		decodeIs(t, head+num(n)+zeros, api.Marks{}, api.ErrForm)
		decodeIs(t, head+num(0)+num(n)+zeros, api.Marks{}, api.ErrForm)
	}
	// All of these lists are there, and one of them is too long.
	for _, m := range []api.Marks{ofRefs(manyRefs(65)...), ofTokens(manyTokens(257, 1)...), ofTombs(manyTombs(65)...), ofTombs(tomb(1, 1, 1, manyTokens(257, 1)...)), ofTombs(acked(tomb(1, 1, 1), 1, 2, 3, 4, 5, 6, 7, 8)), ofRefs(ref(strings.Repeat("n", 256), 1, 1))} {
		decodeIs(t, layout(m), api.Marks{}, api.ErrForm)
	}
}

// P1: a few bytes that tell of very many things are refused without laying them down.
func TestDecodeLaysLittleDown(t *testing.T) {
	for _, s := range []string{num(1<<32 - 1), num(0) + num(1<<32-1), num(0) + num(0) + num(1<<32-1), num(1) + num(1<<32-1), num(64), num(0) + num(256), num(0) + num(0) + num(64)} {
		laid := testing.AllocsPerRun(10, func() { mark.Decode(s) })
		if laid > 100 {
			t.Errorf("Decode(%x) asked for memory %v times", s, laid)
		}
	}
}

// P12.2: the first ref of a Name, all of it.
func TestRef(t *testing.T) {
	m := api.Marks{Refs: []api.Ref{ref("a", 1, 1), ref("b", 2, 2), ref("a", 3, 3), {Name: "", Id: "wrong", Height: -5}, ref("a/b", 4, 4), {Name: "b"}}, Tokens: []api.Token{token(1, 1, 7)}}
	for _, c := range []struct {
		name string
		want api.Ref
		ok   bool
	}{
		{"a", ref("a", 1, 1), true},
		{"b", ref("b", 2, 2), true},
		{"", api.Ref{Id: "wrong", Height: -5}, true},
		{"a/b", ref("a/b", 4, 4), true},
		{"c", api.Ref{}, false}, {"A", api.Ref{}, false}, {"a ", api.Ref{}, false}, {"ab", api.Ref{}, false}, {".", api.Ref{}, false}, {id(1), api.Ref{}, false}, {"a/", api.Ref{}, false},
	} {
		if got, ok := mark.Ref(m, c.name); got != c.want || ok != c.ok {
			t.Errorf("Ref(%q): %v, %v", c.name, got, ok)
		}
	}
	for _, name := range []string{"", "a", ".."} {
		if got, ok := mark.Ref(api.Marks{Tokens: m.Tokens}, name); got != (api.Ref{}) || ok {
			t.Errorf("Ref(%q) of no refs: %v, %v", name, got, ok)
		}
	}
	last := manyRefs(64)
	if got, ok := mark.Ref(ofRefs(last...), "ref0063"); got != last[63] || !ok {
		t.Errorf("Ref of the last one: %v, %v", got, ok)
	}
	allFit(t, m)
}

// P12.2: one more than the greatest number that a node has laid something down by.
func TestNext(t *testing.T) {
	m := api.Marks{
		Tokens: []api.Token{token(1, 5, 1), token(1, 3, 1), token(2, 1, 1), token(4, 9, 1), token(0, 7, 1), token(-1, -7, 1), token(9, -1, 1), token(math.MinInt, 3, 1), token(12, math.MaxInt-1, 1), token(13, math.MinInt, 1)},
		Tombs:  []api.Tomb{tomb(2, 8, 1, token(2, 100, 1), token(6, 100, 1)), tomb(2, 7, 1), tomb(3, 4, 1), tomb(4, 2, 1), tomb(8, 1<<30, 1), tomb(-1, -9, 1), tomb(9, -3, 1), tomb(math.MaxInt, 4, 1), acked(tomb(5, 0, 1), 6)},
	}
	for node, want := range map[int]int{1: 6, 2: 9, 3: 5, 4: 10, 5: 1, 6: 1, 7: 1, 0: 8, -1: -6, 8: 1<<30 + 1, 9: 0, 10: 1, math.MinInt: 4, math.MaxInt: 5, 12: math.MaxInt, 13: math.MinInt + 1} {
		if got := mark.Next(m, node); got != want {
			t.Errorf("Next(%d): %d, not %d", node, got, want)
		}
	}
	for _, node := range nodeNumbers {
		if got := mark.Next(api.Marks{Refs: manyRefs(3)}, node); got != 1 {
			t.Errorf("Next(%d) of refs alone: %d", node, got)
		}
	}
	if got := mark.Next(ofTokens(token(1, 1<<30, 1)), 1); got != 1<<30+1 {
		t.Errorf("Next behind the greatest number: %d", got)
	}
	allFit(t, m)
	// One more than the greatest int there is none; the call ends all the same.
	mark.Next(ofTokens(token(1, math.MaxInt, 1)), 1)
	mark.Next(ofTombs(tomb(1, math.MaxInt, 1)), 1)
}

// P12.3: twice the number of Acks is above that of nodes; which ones they are plays no part.
func TestSure(t *testing.T) {
	for acks := range 20 {
		for nodes := -3; nodes < 45; nodes++ {
			for _, node := range []int{1, 2, 0, -1, 8, math.MaxInt} {
				x := acked(tomb(1, 1, 1), slices.Repeat([]int{node}, acks)...)
				if got := mark.Sure(x, nodes); got != (acks+acks > nodes) {
					t.Errorf("Sure of %d Acks, of %d nodes: %v", acks, nodes, got)
				}
			}
		}
	}
	for _, acks := range [][]int{nil, {}, {1}, {1, 2, 3}, {7, 7, 7, 7}} {
		x := acked(tomb(1, 1, 1), acks...)
		if !mark.Sure(x, -1) || !mark.Sure(x, math.MinInt) || mark.Sure(x, math.MaxInt) || mark.Sure(x, 1<<32) || mark.Sure(x, 0) != (len(acks) > 0) {
			t.Errorf("Sure of the Acks %v, of numbers of nodes that can't be", acks)
		}
	}
	if !mark.Sure(api.Tomb{Acks: []int{3}}, 1) || mark.Sure(api.Tomb{}, 0) || mark.Sure(api.Tomb{Covers: manyTokens(9, 1)}, 7) {
		t.Error("Sure of tombs that aren't right")
	}
}

// liveIs checks what Live and Roots answer, by hand.
func liveIs(t *testing.T, m api.Marks, nodes int, want []api.Token, roots ...string) {
	t.Helper()
	if got := mark.Live(m, nodes); !slices.Equal(got, want) {
		t.Errorf("Live(%s, %d): %s, not %s", show(m), nodes, show(got), show(want))
	}
	if got := mark.Roots(m, nodes); !slices.Equal(got, roots) {
		t.Errorf("Roots(%s, %d): %q, not %q", show(m), nodes, got, roots)
	}
	allFit(t, m)
}

// P12.3: a token lives if no sure tomb covers it.
func TestLive(t *testing.T) {
	x, y, z := token(1, 5, 9), token(2, 1, 9), token(2, 3, 4)
	all := []api.Token{x, y, z}
	with := func(tombs ...api.Tomb) api.Marks { return api.Marks{Tokens: all, Tombs: tombs} }
	liveIs(t, api.Marks{}, 3, nil)
	liveIs(t, with(), 0, all, id(4), id(9))
	liveIs(t, with(), 3, all, id(4), id(9))
	liveIs(t, with(), -1, all, id(4), id(9))
	liveIs(t, with(acked(tomb(3, 1, 9, x, y), 1, 2)), 3, []api.Token{z}, id(4))
	liveIs(t, with(acked(tomb(3, 1, 9, x, y), 1, 2)), 4, all, id(4), id(9))
	liveIs(t, with(acked(tomb(3, 1, 9, x), 1, 2)), 3, []api.Token{y, z}, id(4), id(9))
	liveIs(t, with(acked(tomb(3, 1, 9), 1, 2, 3)), 3, all, id(4), id(9))
	liveIs(t, with(tomb(3, 1, 9, x, y)), 0, all, id(4), id(9))
	liveIs(t, with(tomb(3, 1, 9, x, y)), -1, []api.Token{z}, id(4))
	// Covered by one that is sure, and by one that isn't, in either order; by two.
	liveIs(t, with(tomb(3, 1, 9, x), acked(tomb(3, 2, 9, x), 1, 2)), 3, []api.Token{y, z}, id(4), id(9))
	liveIs(t, with(acked(tomb(3, 1, 9, x), 1, 2), tomb(3, 2, 9, x)), 3, []api.Token{y, z}, id(4), id(9))
	liveIs(t, with(acked(tomb(3, 1, 9, x), 1, 2), acked(tomb(3, 2, 9, x, y), 1, 2)), 3, []api.Token{z}, id(4))
	liveIs(t, with(acked(tomb(3, 1, 9, x), 1), acked(tomb(3, 2, 9, x), 2)), 3, all, id(4), id(9))
	liveIs(t, with(acked(tomb(3, 1, 9, x, y), 1, 2), acked(tomb(3, 2, 4, z), 2, 3)), 3, nil)
	// Covers of what isn't there, or that differ in Node, N or Id alone; the tomb's own fields play no part.
	liveIs(t, with(acked(tomb(3, 1, 9, token(1, 4, 9), token(1, 6, 9), token(7, 7, 9)), 1, 2)), 3, all, id(4), id(9))
	liveIs(t, with(acked(tomb(3, 1, 9, token(2, 5, 9)), 1, 2), acked(tomb(3, 2, 4, token(1, 3, 4)), 1, 2)), 3, all, id(4), id(9))
	liveIs(t, with(acked(tomb(3, 1, 8, token(1, 5, 8), token(2, 1, 8)), 1, 2)), 3, all, id(4), id(9))
	liveIs(t, with(acked(tomb(1, 5, 9), 1, 2, 3)), 3, all, id(4), id(9))
	liveIs(t, with(acked(tomb(3, 1, 9, token(5, 1, 9)), 1, 2)), 3, all, id(4), id(9))
}

// P12.3: of marks that aren't right: in their order, as often as they are there, by all that tombs cover, whatever Ids they have.
func TestLiveOfWrongMarks(t *testing.T) {
	x, y, z := token(2, 1, 9), token(1, 5, 9), token(1, 5, 4)
	odd := api.Token{Node: -3, N: math.MinInt, Id: "odd"}
	m := api.Marks{Tokens: []api.Token{x, odd, y, z, x, {}, odd, y}}
	liveIs(t, m, 3, m.Tokens, "", id(4), id(9), "odd")
	m.Tombs = []api.Tomb{{Node: 9, Id: id(1), Covers: []api.Token{odd, x, x}, Acks: []int{5, 5, -1}}, {Covers: []api.Token{z}}}
	liveIs(t, m, 5, []api.Token{y, z, {}, y}, "", id(4), id(9))
	liveIs(t, m, 6, m.Tokens, "", id(4), id(9), "odd")
	liveIs(t, m, -7, []api.Token{y, {}, y}, "", id(9))
	m.Tombs = append(m.Tombs, api.Tomb{Covers: []api.Token{y, {}}, Acks: []int{0, 0, 0}})
	liveIs(t, m, 5, []api.Token{z}, id(4))
	m.Refs = []api.Ref{{Id: "odd"}, {Id: "\xff"}, {Name: "a"}, {Id: "odd\x00"}, {Id: "odd"}, ref("z", 4, 1)}
	liveIs(t, m, 5, []api.Token{z}, "", id(4), "odd", "odd\x00", "\xff")
}

// P12.3: Ids of refs and of tokens that live, rising byte by byte, each once.
func TestRoots(t *testing.T) {
	refs := []api.Ref{ref("a", 9, 1), ref("b", 3, 1), ref("c", 9, 2), ref("d", 200, 1), ref("e", 127, 0), ref("f", 128, 7)}
	tokens := []api.Token{token(1, 1, 5), token(1, 2, 9), token(1, 3, 5), token(2, 1, 0), token(2, 2, 255)}
	liveIs(t, ofRefs(refs...), 3, nil, id(3), id(9), id(127), id(128), id(200))
	liveIs(t, ofTokens(tokens...), 3, tokens, id(0), id(5), id(9), id(255))
	m := api.Marks{Refs: refs, Tokens: tokens}
	liveIs(t, m, 3, tokens, id(0), id(3), id(5), id(9), id(127), id(128), id(200), id(255))
	// A ref keeps its commit, also when the token is gone; the other token of an Id keeps it, too.
	m.Tombs = []api.Tomb{acked(tomb(3, 1, 9, tokens[1]), 1, 2), acked(tomb(3, 2, 5, tokens[0]), 1, 2), acked(tomb(3, 3, 255, tokens[4]), 1, 2), acked(tomb(3, 4, 77), 1, 2)}
	liveIs(t, m, 3, []api.Token{tokens[2], tokens[3]}, id(0), id(3), id(5), id(9), id(127), id(128), id(200))
	liveIs(t, m, 4, tokens, id(0), id(3), id(5), id(9), id(127), id(128), id(200), id(255))
	allFit(t, full())
}

// P12.4: a tomb that gets an ack more makes no token live that didn't.
func TestOneAckMore(t *testing.T) {
	r := rand.New(rand.NewSource(12))
	for range 300 {
		m := mixed(r)
		for k := range m.Tombs {
			for _, nodes := range nodeNumbers {
				before := mark.Live(m, nodes)
				more := copied(m)
				more.Tombs[k].Acks = append(more.Tombs[k].Acks, r.Intn(9))
				after := mark.Live(more, nodes)
				for _, x := range after {
					if !slices.Contains(before, x) {
						t.Fatalf("%v lives, of %d nodes, as a tomb got an ack more: %s", x, nodes, show(m))
					}
				}
				for _, x := range mark.Roots(more, nodes) {
					if !slices.Contains(mark.Roots(m, nodes), x) {
						t.Fatalf("%q is a root, of %d nodes, as a tomb got an ack more: %s", x, nodes, show(m))
					}
				}
			}
		}
	}
}

// mixed: marks that are mostly right, of few Names, Ids and numbers.
func mixed(r *rand.Rand) api.Marks {
	var m api.Marks
	for _, name := range []string{"a", "ab", "b", "..."} {
		if r.Intn(2) == 0 {
			m.Refs = append(m.Refs, ref(name, byte(r.Intn(4)), r.Intn(4)))
		}
	}
	slices.SortFunc(m.Refs, func(a, b api.Ref) int { return strings.Compare(a.Name, b.Name) })
	each := func(give func(node, n int)) {
		for node := 1; node <= 3; node++ {
			for n := 1; n <= 3; n++ {
				if r.Intn(3) == 0 {
					give(node, n)
				}
			}
		}
	}
	each(func(node, n int) { m.Tokens = append(m.Tokens, token(node, n, byte(r.Intn(3)))) })
	each(func(node, n int) {
		x := tomb(node, n, byte(r.Intn(3)))
		each(func(node, n int) { x.Covers = append(x.Covers, api.Token{Node: node, N: n, Id: x.Id}) })
		for k := 1; k <= 7; k++ {
			if r.Intn(3) == 0 {
				x.Acks = append(x.Acks, k)
			}
		}
		m.Tombs = append(m.Tombs, x)
	})
	return m
}

// spoilt: marks with one thing in them changed, which may make them wrong.
func spoilt(m api.Marks, r *rand.Rand) api.Marks {
	m = copied(m)
	odd := []int{0, 1, 2, 3, 7, 8, -1, 1 << 30, 1<<30 + 1}[r.Intn(9)]
	switch kind := r.Intn(9); {
	case kind == 0 && len(m.Refs) > 0:
		i, k := r.Intn(len(m.Refs)), r.Intn(len(m.Refs))
		m.Refs[i], m.Refs[k] = m.Refs[k], m.Refs[i]
	case kind == 1 && len(m.Refs) > 0:
		m.Refs[r.Intn(len(m.Refs))].Height = odd
	case kind == 2 && len(m.Tokens) > 0:
		i, k := r.Intn(len(m.Tokens)), r.Intn(len(m.Tokens))
		m.Tokens[i], m.Tokens[k] = m.Tokens[k], m.Tokens[i]
	case kind == 3 && len(m.Tokens) > 0:
		m.Tokens[r.Intn(len(m.Tokens))].Node = odd
	case kind == 4 && len(m.Tombs) > 0:
		m.Tombs[r.Intn(len(m.Tombs))].N = odd
	case kind == 5 && len(m.Tombs) > 0:
		m.Tombs[r.Intn(len(m.Tombs))].Id = id(byte(r.Intn(4)))
	case kind == 6 && len(m.Tombs) > 0:
		x := &m.Tombs[r.Intn(len(m.Tombs))]
		x.Acks = append(x.Acks, odd)
	case kind == 7 && len(m.Tombs) > 0:
		x := &m.Tombs[r.Intn(len(m.Tombs))]
		x.Covers = append(x.Covers, token(r.Intn(9), odd, byte(r.Intn(3))))
	case len(m.Tokens) > 0:
		m.Tokens[r.Intn(len(m.Tokens))].Id = []string{"", "x", id(7)}[r.Intn(3)]
	}
	return m
}

// P12.1 to P12.4: mixed marks, right ones and such with a fault or some, and what is left of their bytes when these are changed.
func TestMixedMarks(t *testing.T) {
	r := rand.New(rand.NewSource(1))
	right, wrong := 0, 0
	for range 400 {
		m := mixed(r)
		goodIs(t, m, true)
		allFit(t, m)
		for range r.Intn(4) {
			m = spoilt(m, r)
		}
		allFit(t, m)
		if areMarks(m) {
			right++
		} else {
			wrong++
		}
		s := []byte(layout(m))
		for range 20 {
			s[r.Intn(len(s))] = byte(r.Intn(12))
			decodeFits(t, string(s))
		}
	}
	if right < 50 || wrong < 50 {
		t.Errorf("%d of the mixed marks are right, %d aren't", right, wrong)
	}
}

// P12.4, rule 3: what was handed in is changed afterwards, which changes no earlier answer, and no later one but as it is asked anew.
func TestWhatIsHandedInIsNotKept(t *testing.T) {
	m := some()
	s, _ := mark.Encode(m)
	live, roots := mark.Live(m, 1), mark.Roots(m, 4)
	ref, _ := mark.Ref(m, "a")
	for k := range m.Tombs {
		for i := range m.Tombs[k].Covers {
			m.Tombs[k].Covers[i] = token(7, 7, 7)
		}
		for i := range m.Tombs[k].Acks {
			m.Tombs[k].Acks[i] = -1
		}
	}
	for k := range m.Tokens {
		m.Tokens[k] = token(6, 6, 6)
	}
	for k := range m.Refs {
		m.Refs[k].Name = "changed"
	}
	if s != layout(some()) || !slices.Equal(live, some().Tokens[2:]) || !slices.Equal(roots, []string{id(3), id(4), id(9)}) || ref != some().Refs[0] {
		t.Errorf("what was answered, when the marks were changed: %x, %s, %q, %v", s, show(live), roots, ref)
	}
	allFit(t, m)
	allFit(t, some())
}

// P12.4, rule 3: answers that are changed afterwards, in their spare room too, change nothing else.
func TestAnswersAreNewMemory(t *testing.T) {
	m := full()
	s := layout(m)
	for _, m := range []api.Marks{m, some()} {
		s := layout(m)
		one, _ := mark.Decode(s)
		other, _ := mark.Decode(s)
		spoilAll(one)
		if !same(other, m) {
			t.Errorf("Decode, when another answer was changed: %s", show(other))
		}
		decodeIs(t, s, m, api.OK)
	}
	for range 2 {
		live, roots := mark.Live(m, 7), mark.Roots(m, 14)
		tokens, ids := mark.Live(m, 7), mark.Roots(m, 14)
		fill(live, token(5, 5, 5))
		fill(roots, "changed")
		if !slices.Equal(tokens, plainLive(m, 7)) || !slices.Equal(ids, plainRoots(m, 14)) {
			t.Error("Live or Roots, when another answer was changed")
		}
	}
	none := ofTokens(manyTokens(256, 1)...)
	fill(mark.Live(none, 3), token(5, 5, 5))
	if !same(none, ofTokens(manyTokens(256, 1)...)) || layout(m) != s || !same(m, full()) {
		t.Error("what was done to answers changed what was handed in")
	}
}

// TestListsOfOneAnswerShareNothing: each list of what Decode answers is changed, with its spare room, and all others stay.
func TestListsOfOneAnswerShareNothing(t *testing.T) {
	for _, want := range []api.Marks{some(), full(), {Tokens: manyTokens(3, 1), Tombs: manyTombs(20)}} {
		for k := range want.Tombs {
			got, _ := mark.Decode(layout(want))
			fill(got.Tombs[k].Covers, token(5, 5, 5))
			got.Tombs[k].Covers = want.Tombs[k].Covers
			if !same(got, want) {
				t.Errorf("the Covers of tomb %d share memory", k)
			}
			fill(got.Tombs[k].Acks, 9)
			got.Tombs[k].Acks = want.Tombs[k].Acks
			if !same(got, want) {
				t.Errorf("the Acks of tomb %d share memory", k)
			}
		}
		got, _ := mark.Decode(layout(want))
		fill(got.Tokens, token(5, 5, 5))
		got.Tokens = want.Tokens
		if !same(got, want) {
			t.Error("the Tokens share memory")
		}
	}
}

// fill changes a list that was answered, and the room behind it.
func fill[T any](list []T, x T) {
	list = list[:cap(list)]
	for k := range list {
		list[k] = x
	}
}

// spoilAll changes marks that were answered, all lists of them, and the room behind these.
func spoilAll(m api.Marks) {
	for _, x := range m.Tombs {
		fill(x.Covers, token(5, 5, 5))
		fill(x.Acks, 9)
	}
	fill(m.Refs, ref("changed", 5, 5))
	fill(m.Tokens, token(5, 5, 5))
	fill(m.Tombs, api.Tomb{})
}

// P1: very many of all.
func TestVeryMany(t *testing.T) {
	if testing.Short() {
		t.Skip("goes over very many things")
	}
	const n = 1 << 18
	m := api.Marks{Refs: make([]api.Ref, n), Tokens: make([]api.Token, n), Tombs: make([]api.Tomb, n)}
	for k := range n {
		m.Refs[k] = api.Ref{Name: "a", Id: fmt.Sprintf("%07d", n-k)}
		m.Tokens[k] = api.Token{Node: 1, N: k, Id: fmt.Sprintf("%07d", n+k)}
		m.Tombs[k] = api.Tomb{Node: 2, N: -k, Covers: []api.Token{m.Tokens[k/2*2]}, Acks: []int{k, k}}
	}
	m.Tombs[n-1] = api.Tomb{Node: 3, N: 7, Covers: m.Tokens, Acks: make([]int, n)}
	s := strings.Repeat("\x01", 1<<22)
	if _, code := mark.Decode(s); mark.Good(m) || code != api.ErrForm {
		t.Errorf("Good and Decode of very many: %d", code)
	}
	if _, code := mark.Encode(m); code != api.ErrArg {
		t.Errorf("Encode of very many: %d", code)
	}
	if _, code := mark.Encode(ofTombs(m.Tombs[n-1])); code != api.ErrArg {
		t.Errorf("Encode of very many Covers and Acks: %d", code)
	}
	if a, b, c := mark.Next(m, 1), mark.Next(m, 2), mark.Next(m, 3); a != n || b != 1 || c != 8 {
		t.Errorf("Next of very many: %d, %d, %d", a, b, c)
	}
	if live := mark.Live(m, 3); len(live) != 0 {
		t.Errorf("Live of very many, all of them covered: %d", len(live))
	}
	m.Tombs = m.Tombs[:n-1]
	live, roots := mark.Live(m, 3), mark.Roots(m, 3)
	if len(live) != n/2 || live[0] != m.Tokens[1] || live[n/2-1] != m.Tokens[n-1] || len(roots) != n/2+n || roots[0] != "0000001" || !slices.IsSorted(roots) {
		t.Errorf("Live and Roots of very many: %d, %d", len(live), len(roots))
	}
}
