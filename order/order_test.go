package order_test

import (
	"fmt"
	"math"
	"math/rand"
	"runtime/debug"
	"slices"
	"strings"
	"testing"

	"reliquary/api"
	"reliquary/order"
)

// P11.2, P11.3: the chapter's examples, with either of b and c the greater one.
func TestExamples(t *testing.T) {
	list := facts("a:0: b:1:a c:1:a d:2:b,c")
	logIs(t, list, "d", []string{"d", "c", "b", "a"}, api.OK)
	aboveIs(t, list, "d", "a", true, api.OK)
	baseIs(t, list, "b", "c", "a", api.OK)
	logIs(t, facts("a:0: z:1:a c:1:a d:2:z,c"), "d", []string{"d", "z", "c", "a"}, api.OK)
	logIs(t, facts("z:0: y:1:z x:1:z a:2:x,y"), "a", []string{"a", "y", "x", "z"}, api.OK)
}

// risingIds and risingHeights are written as they stand to one another, byte by byte, and to both ends of an int.
var (
	risingIds     = []string{"", "\x00", "\x00\x00", "\x00\xff", "10", "9", "A", "Z", "a", "a\x00", "aA", "aa", "ab", "abc", "b", "\x7f", "\x7f\xff", "\x80", "\x80a", "\xc3\x28", "é", "\xef\xbf\xbd", "\U0001f600", "\xfe", "\xff", "\xff\x00", "\xff\xff", strings.Repeat("\xff", 32), strings.Repeat("\xff", 32) + "\x00"}
	risingHeights = []int{math.MinInt, math.MinInt + 1, -1 << 32, -256, -2, -1, 0, 1, 2, 255, 256, 1 << 30, 1<<32 - 1, 1 << 32, math.MaxInt - 1, math.MaxInt}
)

// sign: how two places of a rising list stand.
func sign(a, b int) int {
	switch {
	case a < b:
		return -1
	case a > b:
		return 1
	}
	return 0
}

// P11.1: by Height first, in which Id plays no part unless it is the same; Parents never do.
func TestCompare(t *testing.T) {
	for h, height := range risingHeights {
		for k, other := range risingHeights {
			for i, id := range risingIds {
				for j, otherId := range risingIds {
					want := sign(h, k)
					if want == 0 {
						want = sign(i, j)
					}
					compareIs(t, api.Fact{Id: id, Height: height}, api.Fact{Id: otherId, Height: other}, want)
				}
			}
		}
	}
}

// P11.1: facts that differ in one thing alone, in two, in none.
func TestCompareOneByOne(t *testing.T) {
	for _, c := range []struct {
		a, b api.Fact
		want int
	}{
		{api.Fact{}, api.Fact{}, 0},
		{fact("a", 1, ""), fact("a", 1, ""), 0},
		{fact("a", 1, ""), fact("a", 0, ""), 1},
		{fact("a", 1, ""), fact("b", 1, ""), -1},
		{fact("a", 1, ""), fact("ab", 1, ""), -1},
		{fact("a", 1, ""), fact("", 1, ""), 1},
		{fact("a", 1, ""), fact("b", 0, ""), 1},
		{fact("b", 1, ""), fact("a", 0, ""), 1},
		{fact("a", -1, ""), fact("b", -2, ""), 1},
		{fact("z", -1, ""), fact("a", 0, ""), -1},
		{fact("a", math.MinInt, ""), fact("a", math.MaxInt, ""), -1},
		{fact("z", math.MinInt, ""), fact("a", math.MaxInt, ""), -1},
		{fact("\x7f", 0, ""), fact("\x80", 0, ""), -1},
		{fact("\xff", 0, ""), fact("\x00", 0, ""), 1},
	} {
		for _, parents := range []string{"", "q", "q q", "a b c", "z"} {
			for _, others := range []string{"", "q", "b a", "zz"} {
				a, b := c.a, c.b
				a.Parents, b.Parents = strings.Fields(parents), strings.Fields(others)
				compareIs(t, a, b, c.want)
				a, b = c.b, c.a
				a.Parents, b.Parents = strings.Fields(parents), strings.Fields(others)
				compareIs(t, a, b, -c.want)
			}
		}
	}
}

// P11.1: of nothing false and the zero fact; of one that one, whatever it is.
func TestBestOfNoneAndOne(t *testing.T) {
	bestIs(t, nil, api.Fact{}, false)
	bestIs(t, []api.Fact{}, api.Fact{}, false)
	for _, height := range risingHeights {
		for _, id := range risingIds {
			bestIs(t, []api.Fact{fact(id, height, "p q")}, fact(id, height, "p q"), true)
		}
	}
	bestIs(t, []api.Fact{{}}, api.Fact{}, true)
}

// P11.1: of many, in all orders.
func TestBestInAllOrders(t *testing.T) {
	for _, c := range []struct {
		list []api.Fact
		want api.Fact
	}{
		{facts("a:0: b:1:a c:1:a d:2:b,c e:3:d"), fact("e", 3, "d")},
		{facts("a:9:x,y z:8:a y:8: b:7:"), fact("a", 9, "x y")}, // the greater Ids stand below
		{facts("a:5: b:5:q ab:5: aa:5:"), fact("b", 5, "q")},
		{facts("a:-5: b:-5: c:-6: d:-7:"), fact("b", -5, "")},
		{[]api.Fact{fact("", 0, "p"), fact("", math.MinInt, ""), fact("\xff", -1, "")}, fact("", 0, "p")},
		{[]api.Fact{fact("a", math.MaxInt, "p"), fact("b", math.MinInt, ""), fact("c", 0, ""), fact("d", math.MaxInt-1, "")}, fact("a", math.MaxInt, "p")},
		{[]api.Fact{fact("", math.MinInt, "p"), fact("\x00", math.MinInt, "q"), fact("", math.MinInt, "r")}, fact("\x00", math.MinInt, "q")},
		{[]api.Fact{fact("\x7f", 3, "p"), fact("\x80", 3, "q"), fact("~", 3, "r"), fact("\x7f\xff", 3, "s")}, fact("\x80", 3, "q")},
	} {
		inAllOrders(c.list, func(list []api.Fact) {
			bestIs(t, list, c.want, true)
			bestFits(t, list)
		})
	}
}

// P11.1: of those that stand alike the first, told by its Parents.
func TestBestOfThoseThatStandAlike(t *testing.T) {
	low, mid := fact("z", 1, "low"), fact("a", 2, "mid")
	for _, top := range []api.Fact{fact("b", 2, ""), fact("b", math.MaxInt, ""), fact("\xff", 2, "")} {
		one, two, three := top, top, top
		one.Parents, two.Parents, three.Parents = []string{"first"}, []string{"a", "b"}, nil
		inAllOrders([]api.Fact{one, two, three, low, mid}, func(list []api.Fact) {
			at := slices.IndexFunc(list, func(x api.Fact) bool { return x.Height == top.Height && x.Id == top.Id })
			bestIs(t, list, list[at], true)
		})
	}
	// Those that stand alike below the best one play no part.
	bestIs(t, []api.Fact{mid, fact("a", 2, "q"), fact("c", 2, "r"), fact("a", 2, "")}, fact("c", 2, "r"), true)
}

// P11.2: the plain cases, each by hand, with lists in all orders.
func TestLog(t *testing.T) {
	for _, c := range []struct {
		list, from string
		want       string
	}{
		{"a:0:", "a", "a"},
		{"a:0: b:0:", "b", "b"},                      // what has nothing to do with it
		{"a:0: b:1:a c:2:b d:3:c", "d", "d c b a"},   // a chain
		{"d:0: c:1:d b:2:c a:3:b", "a", "a b c d"},   // with falling Ids
		{"a:0: b:1:a c:2:b d:3:c", "b", "b a"},       // what came from it isn't told
		{"a:0: b:0: c:0: d:1:a,b,c", "d", "d c b a"}, // many parents
		{"a:0: b:0: c:0: d:1:c,a,b", "d", "d c b a"}, // which need not rise
		{"a:0: b:1:a c:1:a d:2:c,b", "d", "d c b a"}, // that come together again
		{"z:0: a:1:z b:2:a,z", "b", "b a z"},         // z is the lowest, though its Id is the greatest
		{"a:0: b:1:a z:0: c:2:b,z", "c", "c b z a"},  // z stands above a alone
		{"a:0: b:1:a c:2:b d:3:a,c", "d", "d c b a"}, // a is a parent twice removed, too
		{"a:0: b:1:a,a c:2:b,a,b,b", "c", "c b a"},   // a parent named twice
		{"a:0: b:1:a c:2:b x:1:a y:3:c,x", "y", "y c x b a"},
	} {
		inAllOrders(facts(c.list), func(list []api.Fact) {
			logIs(t, list, c.from, strings.Fields(c.want), api.OK)
		})
		allFit(t, facts(c.list), "none", "")
	}
	logIs(t, nil, "a", nil, api.ErrNone)
	logIs(t, nil, "", nil, api.ErrNone)
	allFit(t, nil, "", "a")
}

// P11.2: Ids are any bytes, the empty ones too; one that begins another one is another one.
func TestLogOfAnyIds(t *testing.T) {
	for _, ids := range [][]string{risingIds[:5], risingIds[7:12], risingIds[14:19], risingIds[23:28], {"a", "", "aa", "\xff", "b"}} {
		a, b, c, d, e := ids[0], ids[1], ids[2], ids[3], ids[4]
		list := []api.Fact{{Id: a}, {Id: b, Height: 1, Parents: []string{a}}, {Id: c, Height: 1, Parents: []string{a}}, {Id: d, Height: 2, Parents: []string{c, b}}, {Id: e}}
		logIs(t, list, d, []string{d, max(b, c), min(b, c), a}, api.OK)
		aboveIs(t, list, d, a, true, api.OK)
		aboveIs(t, list, d, e, false, api.OK)
		baseIs(t, list, b, c, a, api.OK)
		baseIs(t, list, d, e, "", api.OK)
		allFit(t, list, "none", "", a+"\x00", e+e)
	}
}

// many: a list of commits by hand, with what is wrong on top of some of them.
const many = "a:0: b:1:a c:1:a d:2:b,c e:3:d f:0: g:1:f h:4:e,g"

// logsAre checks the Logs of many with more facts beside them, in several orders.
func logsAre(t *testing.T, more, from string, want string, code api.Errno) {
	t.Helper()
	list := append(facts(more), facts(many)...)
	for range len(list) {
		list = append(list[1:], list[0])
		logIs(t, list, from, strings.Fields(want), code)
	}
	slices.Reverse(list)
	logIs(t, list, from, strings.Fields(want), code)
	allFit(t, list, "none", from)
}

// P11.2: each error, at from, far behind it, and at commits that aren't met.
func TestLogErrors(t *testing.T) {
	for _, c := range []struct {
		more, from, want string
		code             api.Errno
	}{
		{"", "h", "h e d g c b f a", api.OK},
		{"", "x", "", api.ErrNone}, {"", "aa", "", api.ErrNone}, {"", "A", "", api.ErrNone}, {"x:1:none", "none", "", api.ErrNone},

		{"h:4:e,g", "h", "", api.ErrTwice}, {"a:0:", "h", "", api.ErrTwice}, {"a:0:", "a", "", api.ErrTwice}, // the same fact
		{"h:9:", "h", "", api.ErrTwice}, {"a:1:f", "d", "", api.ErrTwice}, // another one
		{"g:1:f", "d", "", api.ErrTwice}, {"x:0: x:0:", "a", "", api.ErrTwice}, {"x:0: x:0:", "x", "", api.ErrTwice}, // beside those that are met
		{"x:0: x:0:", "none", "", api.ErrTwice}, {"h:0:", "none", "", api.ErrTwice}, {"b:0: b:0: b:0:", "none", "", api.ErrTwice}, // where none has from

		{"x:1:none", "x", "", api.ErrOpen}, {"x:3:d,none", "x", "", api.ErrOpen}, {"x:3:none,d", "x", "", api.ErrOpen}, // of from
		{"x:1:none y:5:h,x", "y", "", api.ErrOpen}, {"x:1:none y:2:x z:3:y v:4:z,e", "v", "", api.ErrOpen}, // far behind it
		{"x:1:none", "h", "h e d g c b f a", api.OK}, {"x:5:h,none y:6:x", "h", "h e d g c b f a", api.OK}, // not met

		{"x:1:", "x", "", api.ErrOrder}, {"x:-1:", "x", "", api.ErrOrder}, {"x:0:a", "x", "", api.ErrOrder}, {"x:2:a", "x", "", api.ErrOrder},
		{"x:-1:a", "x", "", api.ErrOrder}, {"x:1:d", "x", "", api.ErrOrder}, {"x:2:d", "x", "", api.ErrOrder}, {"x:4:d", "x", "", api.ErrOrder},
		{"x:1:d,a", "x", "", api.ErrOrder}, {"x:3:d,a", "x", "x d c b a", api.OK}, {"x:3:a,d", "x", "x d c b a", api.OK}, {"x:1:a,d", "x", "", api.ErrOrder},
		{"x:4:a,d", "x", "", api.ErrOrder}, {"x:1073741824:d", "x", "", api.ErrOrder}, {"x:1:f,a,f", "x", "x f a", api.OK}, {"x:3:f,a,f", "x", "", api.ErrOrder},
		{"x:1: y:2:x", "y", "", api.ErrOrder}, {"x:0:a y:1:x", "y", "", api.ErrOrder}, {"x:2:a y:5:h,x z:6:y", "z", "", api.ErrOrder}, // far behind it
		{"x:-1: y:0:x", "y", "", api.ErrOrder}, {"x:1: y:5:x,h", "y", "", api.ErrOrder},
		{"x:1:", "h", "h e d g c b f a", api.OK}, {"x:9:h y:0:x", "h", "h e d g c b f a", api.OK}, {"x:-1:h", "d", "d c b a", api.OK}, // not met
	} {
		logsAre(t, c.more, c.from, c.want, c.code)
	}
}

// P11.2: two faults at once, told in the promise's order, wherever each stands.
func TestLogFirstError(t *testing.T) {
	for _, c := range []struct {
		more, from string
		code       api.Errno
	}{
		{"x:1:none x:1:none", "x", api.ErrTwice}, {"x:1:none a:0:", "x", api.ErrTwice}, // and ErrOpen
		{"x:7: a:0:", "x", api.ErrTwice}, {"x:7: y:8:x h:4:e,g", "y", api.ErrTwice}, // and ErrOrder
		{"x:7:none b:1:a", "x", api.ErrTwice}, {"b:1:a", "none", api.ErrTwice},
		{"x:1:none y:7:", "none", api.ErrNone}, {"x:1:none y:7:", "z", api.ErrNone}, // what is wrong isn't met
		{"x:7:none", "x", api.ErrOpen}, {"x:0:none", "x", api.ErrOpen}, {"x:-1:a,none", "x", api.ErrOpen}, // both at from
		{"x:7:y y:1:none", "x", api.ErrOpen}, {"x:2:y y:7:none", "x", api.ErrOpen}, {"x:5:h,y y:1:z z:0:none", "x", api.ErrOpen}, // one behind the other
		{"x:8:y,none y:7:", "x", api.ErrOpen}, {"x:8:none,y y:7:", "x", api.ErrOpen}, {"x:9:y,z y:7: z:1:none", "x", api.ErrOpen}, {"x:9:z,y y:7: z:1:none", "x", api.ErrOpen},
		{"x:1:x,none", "x", api.ErrOpen}, {"x:1:none,x", "x", api.ErrOpen}, {"x:1:y y:1:x,none", "x", api.ErrOpen}, {"x:1:y y:1:x,none", "y", api.ErrOpen}, // a ring
		{"x:7: y:1:none", "x", api.ErrOrder}, {"x:7: y:1:none", "y", api.ErrOpen}, // each by itself
	} {
		logsAre(t, c.more, c.from, "", c.code)
	}
}

// P1, P11.2: heights at the ends of an int, and ones that wrap round, are never right.
func TestLogAtTheEndsOfAnInt(t *testing.T) {
	for _, height := range risingHeights {
		code := api.ErrOrder
		if height == 0 {
			code = api.OK
		}
		list := []api.Fact{fact("a", height, ""), fact("b", height+1, "a"), fact("c", height, "c"), fact("d", height+1, "d"), fact("e", height-1, "e e")}
		if code == api.OK {
			logIs(t, list, "a", []string{"a"}, code)
			logIs(t, list, "b", []string{"b", "a"}, code)
		} else {
			logIs(t, list, "a", nil, code)
			logIs(t, list, "b", nil, code)
		}
		for _, id := range []string{"c", "d", "e"} {
			logIs(t, list, id, nil, api.ErrOrder)
			aboveIs(t, list, id, id, false, api.ErrOrder)
			baseIs(t, list, id, id, "", api.ErrOrder)
		}
		allFit(t, list, "x")
	}
	for _, a := range risingHeights {
		for _, b := range risingHeights {
			allFit(t, []api.Fact{fact("a", a, ""), fact("b", b, "a"), fact("c", max(a, b)+1, "a b"), fact("d", 1, "z"), fact("z", 0, "")}, "x")
		}
	}
}

// P11.2: rings of each length, whatever their heights, and what came from them.
func TestRings(t *testing.T) {
	heights := []int{math.MinInt, -1, 0, 1, 2, 3, math.MaxInt}
	for n := 1; n <= 3; n++ {
		count := 1
		for range n {
			count *= len(heights)
		}
		for code := range count {
			list := []api.Fact{fact("first", 0, ""), fact("into", 1, "r0"), fact("past", 1, "first"), fact("both", 2, "past into")}
			for at := range n {
				height := heights[code%len(heights)]
				code /= len(heights)
				list = append(list, fact(fmt.Sprint("r", at), height, fmt.Sprint("r", (at+1)%n)))
			}
			for at := range n {
				logIs(t, list, fmt.Sprint("r", at), nil, api.ErrOrder)
			}
			logIs(t, list, "into", nil, api.ErrOrder)
			logIs(t, list, "both", nil, api.ErrOrder)
			logIs(t, list, "past", []string{"past", "first"}, api.OK)
			// With a first commit among the ring's parents.
			list[4].Parents = append(list[4].Parents, "first")
			logIs(t, list, "r0", nil, api.ErrOrder)
			aboveIs(t, list, "r0", "r0", false, api.ErrOrder)
			aboveIs(t, list, "into", "first", false, api.ErrOrder)
			baseIs(t, list, "past", "r0", "", api.ErrOrder)
			baseIs(t, list, "r0", "past", "", api.ErrOrder)
		}
	}
	for n := 4; n <= 40; n += 9 {
		var list []api.Fact
		for at := range n {
			list = append(list, fact(fmt.Sprint(at), at+1, fmt.Sprint((at+n-1)%n)))
		}
		for at := range n {
			logIs(t, list, fmt.Sprint(at), nil, api.ErrOrder)
		}
	}
}

// P11.3: Above of all that two commits can be to one another.
func TestAbove(t *testing.T) {
	list := append(facts(many), facts("o:1:none w:7: up:8:w")...)
	for _, c := range []struct {
		from, old string
		want      bool
	}{
		{"a", "a", false}, {"h", "h", false}, // itself
		{"b", "a", true}, {"h", "e", true}, {"h", "g", true}, {"d", "b", true}, {"d", "c", true}, // its parents
		{"h", "a", true}, {"h", "f", true}, {"h", "c", true}, {"e", "b", true}, // far behind it
		{"a", "b", false}, {"e", "h", false}, {"g", "h", false}, {"a", "h", false}, {"f", "h", false}, // what came from it
		{"b", "c", false}, {"c", "b", false}, {"d", "f", false}, {"g", "a", false}, {"e", "g", false}, {"f", "a", false}, // others
		{"h", "none", false}, {"a", "x", false}, {"h", "", false}, // that none has
		{"h", "o", false}, {"h", "w", false}, {"a", "up", false}, // of which something is wrong
	} {
		aboveIs(t, list, c.from, c.old, c.want, api.OK)
	}
}

// P11.3: Base of all that two commits can be to one another.
func TestBase(t *testing.T) {
	list := facts(many + " i:5:h j:3:c,d k:5:j,h p:2:b,c q:0: m:1:a,f n:1:a,f")
	for _, c := range []struct{ a, b, want string }{
		{"a", "a", "a"}, {"h", "h", "h"}, {"q", "q", "q"}, // itself
		{"b", "a", "a"}, {"h", "e", "e"}, {"h", "a", "a"}, {"h", "f", "f"}, {"i", "b", "b"}, // what it came from
		{"b", "c", "a"}, {"h", "j", "d"}, // in one place
		{"e", "p", "c"}, {"d", "p", "c"}, {"i", "k", "h"}, {"m", "n", "f"}, // in several: the one that stands above the others
		{"a", "f", ""}, {"q", "h", ""}, {"e", "g", ""}, {"d", "f", ""}, // in none
	} {
		inTurn := slices.Clone(list)
		for range len(list) {
			inTurn = append(inTurn[1:], inTurn[0])
			baseIs(t, inTurn, c.a, c.b, c.want, api.OK)
			baseIs(t, inTurn, c.b, c.a, c.want, api.OK)
		}
	}
}

// P11.3: of several that both came from it is the highest one, and of those of one height the greatest Id, however many parents lie between.
func TestBaseIsTheBest(t *testing.T) {
	list := facts("z:0: y:0: a:1:z b:1:y c:2:a,b l1:1:z l2:2:l1 l3:3:l2 l4:4:l3,c r:3:a,b,c")
	baseIs(t, list, "l4", "r", "c", api.OK)
	baseIs(t, list, "r", "l4", "c", api.OK)
	list = facts("a:0: z:0: m:1:a n:1:z x:2:m,n y:2:n,m")
	baseIs(t, list, "x", "y", "n", api.OK)
	baseIs(t, list, "y", "x", "n", api.OK)
	allFit(t, list, "none")
}

// P11.3: the errors of Above are those of from alone; of Base those of a, then of b.
func TestErrorsOfTwo(t *testing.T) {
	ids := []struct {
		id   string
		code api.Errno
	}{{"h", api.OK}, {"a", api.OK}, {"open", api.ErrOpen}, {"deepopen", api.ErrOpen}, {"wrong", api.ErrOrder}, {"deepwrong", api.ErrOrder},
		{"ring", api.ErrOrder}, {"none", api.ErrNone}, {"", api.ErrNone}}
	list := append(facts(many), facts("open:1:none deepopen:5:open,h wrong:7: deepwrong:8:h,wrong ring:1:ring")...)
	twice := append(slices.Clone(list), fact("q", 0, ""), fact("q", 0, ""))
	for _, a := range ids {
		for _, b := range ids {
			above, base := false, ""
			if a.code == api.OK && b.code == api.OK {
				above, base = a.id == "h" && b.id == "a", "a"
				if a.id == b.id {
					base = a.id
				}
			}
			aboveIs(t, list, a.id, b.id, above, a.code)
			code := a.code
			if code == api.OK {
				code = b.code
			}
			baseIs(t, list, a.id, b.id, base, code)
			aboveIs(t, twice, a.id, b.id, false, api.ErrTwice)
			baseIs(t, twice, a.id, b.id, "", api.ErrTwice)
		}
	}
	allFit(t, list, "none", "")
	allFit(t, twice, "none", "")
}

// P11.1 to P11.4: all lists of up to three commits of three heights, whose parents are any of these and one that there isn't.
func TestAllSmallLists(t *testing.T) {
	const subsets, heights = 16, 3
	if testing.Short() {
		t.Skip("goes over very many lists")
	}
	ids := []string{"b", "a", "c", "x"}
	kinds := subsets*heights + 1
	for code := range kinds * kinds * kinds {
		var list []api.Fact
		for _, id := range ids[:3] {
			kind := code % kinds
			code /= kinds
			if kind == subsets*heights {
				continue
			}
			x := api.Fact{Id: id, Height: kind / subsets}
			for bit, parent := range ids {
				if kind>>bit&1 == 1 {
					x.Parents = append(x.Parents, parent)
				}
			}
			list = append(list, x)
		}
		smallFits(t, list, ids)
	}
}

// smallFits checks the Logs of a list, and of each two Ids either Above or Base, in turn.
func smallFits(t *testing.T, list []api.Fact, ids []string) {
	t.Helper()
	var logs [][]string
	var codes []api.Errno
	for _, id := range ids {
		want, code := plainLog(list, id)
		if got, e := order.Log(list, id); e != code || !slices.Equal(got, want) {
			t.Fatalf("Log(%s, %q): %q, %d; not %q, %d", show(list...), id, got, e, want, code)
		}
		logs, codes = append(logs, want), append(codes, code)
	}
	for k, a := range ids {
		for l, b := range ids {
			came := k != l && slices.Contains(logs[k], b)
			if got, e := order.Above(list, a, b); got != came || e != codes[k] {
				t.Fatalf("Above(%s, %q, %q): %v, %d", show(list...), a, b, got, e)
			}
			base, code := "", codes[k]
			if code == api.OK {
				code = codes[l]
			}
			if at := slices.IndexFunc(logs[k], func(id string) bool { return slices.Contains(logs[l], id) }); at >= 0 {
				base = logs[k][at]
			}
			if got, e := order.Base(list, a, b); got != base || e != code {
				t.Fatalf("Base(%s, %q, %q): %q, %d; not %q, %d", show(list...), a, b, got, e, base, code)
			}
		}
	}
}

// mixedList: so many commits by a rule, in an order that tells nothing, of which each came from some ahead of it; and so many faults.
func mixedList(r *rand.Rand, n, most, faults int) []api.Fact {
	var list []api.Fact
	for _, at := range r.Perm(n) {
		x := api.Fact{Id: fmt.Sprint(at)}
		for range r.Intn(most + 1) {
			if len(list) > 0 {
				x.Parents = append(x.Parents, list[r.Intn(len(list))].Id)
			}
		}
		x.Height = plainHeight(list, x.Parents)
		list = append(list, x)
	}
	for range faults {
		x := &list[r.Intn(n)]
		switch r.Intn(5) {
		case 0:
			x.Height += r.Intn(5) - 2
		case 1:
			x.Parents = append(x.Parents, "none")
		case 2:
			x.Parents = append(x.Parents, list[r.Intn(n)].Id)
		case 3:
			list = append(list, list[r.Intn(n)])
		case 4:
			list = slices.DeleteFunc(list, func(other api.Fact) bool { return len(list) > n/2 && other.Id == x.Id })
			n = len(list)
		}
	}
	r.Shuffle(len(list), func(a, b int) { list[a], list[b] = list[b], list[a] })
	return list
}

// P11.1 to P11.4: lists by a rule, without faults and with some.
func TestMixedLists(t *testing.T) {
	r := rand.New(rand.NewSource(11))
	for round := range 300 {
		allFit(t, mixedList(r, 1+r.Intn(14), 1+round%4, max(0, round%6-2)), "none", "")
	}
	list := mixedList(r, 120, 3, 0)
	for _, x := range list {
		want, code := plainLog(list, x.Id)
		if got, e := order.Log(list, x.Id); e != code || !slices.Equal(got, want) {
			t.Fatalf("Log(%s, %q): %q, %d; not %q, %d", show(list...), x.Id, got, e, want, code)
		}
	}
}

// P11.2: more parents than a commit can have are parents as others are.
func TestVeryManyParents(t *testing.T) {
	list := []api.Fact{{Id: "top", Height: 1}}
	want := []string{"top"}
	for k := range 3000 {
		id := fmt.Sprintf("%04d", 2999-k)
		list[0].Parents = append(list[0].Parents, id, id)
		list = append(list, api.Fact{Id: id})
		want = append(want, id)
	}
	got, code := order.Log(list, "top")
	if code != api.OK || !slices.Equal(got, want) {
		t.Errorf("Log of a commit with 3000 parents: %.100q, %d", got, code)
	}
	list[0].Parents[5999] = "none"
	if got, code = order.Log(list, "top"); code != api.ErrOpen || len(got) != 0 {
		t.Errorf("Log of a commit with 3000 parents of which one isn't there: %.100q, %d", got, code)
	}
}

// chain: so many commits, each of the one ahead of it, and their Ids, from the last one on.
func chain(n int) ([]api.Fact, []string) {
	list, ids := []api.Fact{{Id: "0"}}, []string{"0"}
	for k := 1; k < n; k++ {
		list = append(list, api.Fact{Id: fmt.Sprint(k), Height: k, Parents: []string{fmt.Sprint(k - 1)}})
		ids = append(ids, list[k].Id)
	}
	slices.Reverse(ids)
	return list, ids
}

// P1, P11.2, P11.3: long chains, which no call goes down by calling itself at each step.
func TestLongChains(t *testing.T) {
	const n = 100000
	defer debug.SetMaxStack(debug.SetMaxStack(1 << 20))
	list, want := chain(n)
	got, code := order.Log(list, want[0])
	if code != api.OK || !slices.Equal(got, want) {
		t.Errorf("Log of a long chain: %d Ids, %d", len(got), code)
	}
	if ok, code := order.Above(list, want[0], "0"); !ok || code != api.OK {
		t.Errorf("Above of a long chain: %v, %d", ok, code)
	}
	if id, code := order.Base(list, want[0], want[1]); id != want[1] || code != api.OK {
		t.Errorf("Base of a long chain: %q, %d", id, code)
	}
	if x, ok := order.Best(list); !ok || x.Id != want[0] {
		t.Errorf("Best of a long chain: %q, %v", x.Id, ok)
	}
	list[0].Height = 1
	if got, code = order.Log(list, want[0]); code != api.ErrOrder || len(got) != 0 {
		t.Errorf("Log of a long chain with a wrong height: %d Ids, %d", len(got), code)
	}
	list[0] = api.Fact{Id: "0", Height: 0, Parents: []string{want[0]}}
	if got, code = order.Log(list, want[0]); code != api.ErrOrder || len(got) != 0 {
		t.Errorf("Log of a long ring: %d Ids, %d", len(got), code)
	}
	list[0].Parents[0] = "none"
	if got, code = order.Log(list, want[0]); code != api.ErrOpen || len(got) != 0 {
		t.Errorf("Log of a long chain that is open: %d Ids, %d", len(got), code)
	}
}

// P1, P11.2: ladders, of which each step doubles the number of ways.
func TestPartingWays(t *testing.T) {
	var list []api.Fact
	var want []string
	for k := range 300 {
		x := api.Fact{Height: k}
		if k > 0 {
			x.Parents = []string{fmt.Sprint("a", k-1), fmt.Sprint("b", k-1)}
		}
		for _, side := range []string{"a", "b"} {
			x.Id = fmt.Sprint(side, k)
			list = append(list, x)
			want = append(want, x.Id)
		}
	}
	slices.Reverse(want)
	got, code := order.Log(list[:len(list)-1], "a299")
	if code != api.OK || !slices.Equal(got, want[1:]) {
		t.Errorf("Log of a ladder: %.100q, %d", got, code)
	}
	baseIs(t, list, "a299", "b299", "b298", api.OK)
	aboveIs(t, list, "b299", "a0", true, api.OK)
	aboveIs(t, list, "b299", "a299", false, api.OK)
}

// P11.4, rules 3 and 4: lists that were handed in, and their Parents, are changed afterwards, which changes no earlier answer; and as they are told anew, no later one.
func TestWhatIsHandedInIsNotKept(t *testing.T) {
	first := facts(many)
	list := copied(first)
	log, _ := order.Log(list, "h")
	base, _ := order.Base(list, "b", "c")
	best, _ := order.Best(list)
	for at := range list {
		for k := range list[at].Parents {
			list[at].Parents[k] = "spoilt"
		}
		list[at] = fact("spoilt", -9, "spoilt")
	}
	if want := []string{"h", "e", "d", "g", "c", "b", "f", "a"}; !slices.Equal(log, want) {
		t.Errorf("Log, when its list was changed: %q", log)
	}
	if base != "a" || !sameFact(best, fact("h", 4, "e g")) {
		t.Errorf("Base and Best, when their list was changed: %q, %s", base, show(best))
	}
	logIs(t, list, "h", nil, api.ErrTwice)
	allFit(t, list[:1], "h", "none")
	allFit(t, first, "none")
	// One parent changed in place is another list, and is told as such.
	second := copied(first)
	logIs(t, second, "h", log, api.OK)
	second[3].Parents[0] = "f"
	logIs(t, second, "h", []string{"h", "e", "d", "g", "c", "f", "a"}, api.OK)
}

// P11.4, rule 3: answers that are changed afterwards change no other answer, nor what was handed in.
func TestAnswersAreNewMemory(t *testing.T) {
	list, stayed := roomy(facts(many))
	one, _ := order.Log(list, "h")
	other, _ := order.Log(list, "h")
	kept := slices.Clone(other)
	spoil(one)
	if !slices.Equal(other, kept) {
		t.Errorf("Log, when another answer was changed: %q", other)
	}
	again, _ := order.Log(list, "h")
	if !slices.Equal(again, kept) {
		t.Errorf("Log, asked again: %q", again)
	}
	best, _ := order.Best(list)
	also, _ := order.Best(list)
	spoil(best.Parents)
	if !sameFact(also, fact("h", 4, "e g")) {
		t.Errorf("Best, when another answer was changed: %s", show(also))
	}
	stay(t, "What was done to answers", stayed)
	bestIs(t, list, fact("h", 4, "e g"), true)
	// Of one fact, and of one without parents but with room for them.
	for _, lone := range [][]api.Fact{facts("a:1:b,c"), {{Id: "a", Parents: make([]string, 0, 4)}}} {
		handed, stayed := roomy(lone)
		best, _ := order.Best(handed)
		spoil(best.Parents)
		best.Parents = append(best.Parents, "more")
		stay(t, "What was done to Best's answer", stayed)
	}
}

// spoil changes a list that was answered, and the room behind it.
func spoil(list []string) {
	list = list[:cap(list)]
	for k := range list {
		list[k] = "spoilt"
	}
}

// Rules 4 and 7: what is refused, and any asking, changes nothing.
func TestAskingChangesNothing(t *testing.T) {
	bad := append(facts(many), facts("open:1:none wrong:7: ring:1:ring")...)
	twice := append(slices.Clone(bad), bad[0])
	for range 3 {
		logIs(t, bad, "open", nil, api.ErrOpen)
		logIs(t, bad, "wrong", nil, api.ErrOrder)
		logIs(t, bad, "ring", nil, api.ErrOrder)
		logIs(t, bad, "none", nil, api.ErrNone)
		logIs(t, twice, "a", nil, api.ErrTwice)
		logIs(t, bad, "g", []string{"g", "f"}, api.OK)
		aboveIs(t, bad, "g", "f", true, api.OK)
		baseIs(t, bad, "g", "f", "f", api.OK)
		bestIs(t, bad, fact("wrong", 7, ""), true)
	}
}
