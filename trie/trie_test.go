package trie_test

import (
	"fmt"
	"math"
	"math/rand"
	"slices"
	"strings"
	"testing"

	"reliquary/api"
	"reliquary/trie"
)

// P10.1, P10.3: the chapter's examples.
func TestExamples(t *testing.T) {
	none := api.Cell{Sum: digest("l")}
	lookIs(t, nil, "", none, api.OK)
	one := []string{id("ab")}
	drawIs(t, nil, lookFits(t, one, ""), one, nil, api.OK)
	for _, ids := range sets() {
		drawIs(t, ids, lookFits(t, ids, ""), nil, nil, api.OK)
	}
}

// sets: of no ids, few and many, mixed, alike for many digits, and at the ends.
func sets() [][]string {
	deep := strings.Repeat("7", 60)
	return [][]string{
		nil, {id("")}, {strings.Repeat("\xff", 32)}, {id(""), strings.Repeat("\xff", 32)}, mixed(1, "a"), mixed(2, "a"), mixed(7, "a"), mixed(8, "a"),
		mixed(9, "a"), mixed(10, "a"), mixed(16, "b"), mixed(17, "b"), mixed(40, "b"), mixed(300, "c"), mixed(1024, "c"),
		sixteen("")[:8], sixteen("")[:9], sixteen("c"), sixteen(deep), sixteen(deep)[7:], under("0", 9), under("f", 8), under("5a", 30),
		under(deep, 8), under(deep, 9), under(deep, 300), under(strings.Repeat("0", 61), 100), under(strings.Repeat("f", 61), 100),
		joined(under("1", 9), under("2", 8), under("3", 1)), joined(sixteen("a")[:8], sixteen("b")[:9]),
		joined(mixed(5, "d"), under(deep, 20), sixteen("00")), joined(sixteen(deep+"0"), sixteen(deep+"1"), sixteen(deep + "f")[:3]),
	}
}

// beginnings: the prefixes of 0 to 64 digits that an id has, and ones beside each of them.
func beginnings(id string) []string {
	digits := digitsOf(id)
	list := []string{""}
	for n := 1; n <= idDigits; n++ {
		list = append(list, digits[:n], digits[:n-1]+other(digits[n-1]))
	}
	return list
}

// other: a digit that is another one.
func other(digit byte) string {
	if digit == '0' {
		return "f"
	}
	return "0"
}

// P10.1: prefixes of 0 to 64 digits, with ids below them and without.
func TestLookAtAllLengths(t *testing.T) {
	for _, ids := range sets() {
		lookFits(t, ids, "")
		lookFits(t, ids, strings.Repeat("e", 64))
		if len(ids) == 0 {
			continue
		}
		for _, at := range []int{0, len(ids) / 2, len(ids) - 1}[:3-min(2, len(ids)/50)] {
			for _, prefix := range beginnings(ids[at]) {
				lookFits(t, ids, prefix)
			}
		}
	}
}

// P10.1: at the limit of eight ids a cell tells them one by one, at one more by kids; at each length of the prefix at which so many can be.
func TestLookAtTheLimit(t *testing.T) {
	digits := strings.Repeat("0123456789abcdef", 4)
	for n := range idDigits {
		prefix := digits[:n]
		all := sixteen(prefix)
		beside := setOf(id(prefix+"0"), id(prefix+"ffff"[:min(4, idDigits-n)]))
		for count := range 17 {
			ids := all[:count]
			c := lookFits(t, ids, prefix)
			if c.Count != count || (len(c.Ids) > 0) != (count > 0 && count <= 8) || (len(c.Kids) == 16) != (count > 8) {
				t.Fatalf("%d ids at a prefix of %d digits: %d, %d ids, %d kids", count, n, c.Count, len(c.Ids), len(c.Kids))
			}
			lookFits(t, joined(ids, beside), prefix)
		}
	}
}

// P10.1: ids beside the prefix play no part; a prefix with none below it tells nothing, as the empty set does.
func TestLookBesideIds(t *testing.T) {
	near := joined(sixteen("4f"), sixteen("51"), mixed(30, "n"))
	near = minus(near, plainBelow(near, "50"))
	for _, own := range [][]string{nil, {id("50")}, {id("50" + strings.Repeat("f", 62))}, under("50", 8), under("50", 9), under("50", 200)} {
		want := plainCell(own, "50")
		lookIs(t, own, "50", want, api.OK)
		lookIs(t, joined(own, near), "50", want, api.OK)
	}
	lookIs(t, near, "50", api.Cell{Prefix: "50", Sum: digest("l")}, api.OK)
}

// P10.1: each id's cell of all 64 digits, and of one of them changed.
func TestLookAtOneId(t *testing.T) {
	for _, ids := range [][]string{mixed(12, "o"), sixteen(strings.Repeat("3", 63)), {id("")}} {
		for _, one := range ids {
			lookIs(t, ids, digitsOf(one), api.Cell{Prefix: digitsOf(one), Count: 1, Sum: digest("l" + one), Ids: []string{one}}, api.OK)
		}
	}
	lookIs(t, []string{id("")}, strings.Repeat("0", 63)+"1", api.Cell{Prefix: strings.Repeat("0", 63) + "1", Sum: digest("l")}, api.OK)
}

// P10.1: the kids' sums are those of the sixteen longer prefixes, by their last digit, and their counts make the whole.
func TestKidsAreLongerPrefixes(t *testing.T) {
	for _, ids := range sets() {
		for _, prefix := range []string{"", "7", "5a", strings.Repeat("7", 60), strings.Repeat("0", 61)} {
			c, _ := trie.Look(ids, prefix)
			if len(c.Kids) == 0 {
				continue
			}
			count := 0
			for k, digit := range "0123456789abcdef" {
				kid, e := trie.Look(ids, prefix+string(digit))
				if e != api.OK || kid.Sum != c.Kids[k] {
					t.Fatalf("kid %c at %q: %d, %x, not %x", digit, prefix, e, kid.Sum, c.Kids[k])
				}
				count += kid.Count
			}
			if count != c.Count {
				t.Fatalf("kids at %q have %d ids, not %d", prefix, count, c.Count)
			}
		}
	}
}

// P10.1: unlike sets have unlike sums, and one set has one.
func TestSumsTellSetsApart(t *testing.T) {
	seen := map[string]int{}
	for k, ids := range sets() {
		c, _ := trie.Look(ids, "")
		if before, ok := seen[c.Sum]; ok {
			t.Errorf("sets %d and %d have one sum", before, k)
		}
		seen[c.Sum] = k
		for drop := 0; drop < len(ids); drop += 1 + len(ids)/20 {
			less, _ := trie.Look(slices.Delete(slices.Clone(ids), drop, drop+1), "")
			if less.Sum == c.Sum {
				t.Errorf("set %d without %x has the same sum", k, ids[drop])
			}
		}
	}
}

// noSets: each of some sets with one fault, in every place.
func noSets() [][]string {
	var lists [][]string
	for _, word := range wrongIds() {
		lists = append(lists, []string{word})
	}
	for _, ids := range [][]string{mixed(2, "w"), mixed(3, "w"), mixed(8, "w"), mixed(9, "w"), mixed(20, "w"), sixteen(strings.Repeat("4", 63))} {
		for at := range ids {
			for _, word := range append(wrongIds(), ids[at][:31], ids[at]+"\x00") {
				spoilt := slices.Clone(ids)
				spoilt[at] = word
				lists = append(lists, spoilt, slices.Insert(slices.Clone(ids), at, word))
			}
			lists = append(lists, slices.Insert(slices.Clone(ids), at, ids[at]), append(slices.Clone(ids), ids[at]))
			if at > 0 {
				swapped := slices.Clone(ids)
				swapped[at-1], swapped[at] = swapped[at], swapped[at-1]
				lists = append(lists, swapped)
			}
		}
		falling := slices.Clone(ids)
		slices.Reverse(falling)
		lists = append(lists, falling, append(slices.Clone(ids), ids[0]), append(slices.Clone(ids), ""))
	}
	return lists
}

// P10.1: a list that is no set is ErrArg, whatever the prefix is, with the faults below it or beside it.
func TestLookOfNoSet(t *testing.T) {
	for _, list := range noSets() {
		prefixes := []string{"", "0", "44", "f", strings.Repeat("4", 63), strings.Repeat("1", 64), "A", "x", strings.Repeat("0", 65)}
		for _, prefix := range prefixes {
			lookIs(t, list, prefix, api.Cell{}, api.ErrArg)
		}
	}
}

// P10.1: what is no prefix is ErrForm of each set; ErrArg comes ahead of it.
func TestLookAtNoPrefix(t *testing.T) {
	for _, prefix := range wrongPrefixes() {
		for _, ids := range [][]string{nil, {id("")}, mixed(8, "p"), mixed(9, "p"), sixteen("0")} {
			lookIs(t, ids, prefix, api.Cell{}, api.ErrForm)
		}
		lookIs(t, []string{id("1"), id("0")}, prefix, api.Cell{}, api.ErrArg)
		lookIs(t, []string{id("1"), id("1")}, prefix, api.Cell{}, api.ErrArg)
		lookIs(t, []string{"x"}, prefix, api.Cell{}, api.ErrArg)
	}
}

// P10.1: each byte as a prefix, alone, and in each place of many.
func TestLookAtEachByte(t *testing.T) {
	ids := joined(mixed(40, "e"), sixteen(""))
	for c := range 256 {
		prefix := string([]byte{byte(c)})
		if plainPrefix(prefix) {
			lookFits(t, ids, prefix)
		} else {
			lookIs(t, ids, prefix, api.Cell{}, api.ErrForm)
		}
		for at := range idDigits {
			b := []byte(digitsOf(ids[20]))
			b[at] = byte(c)
			if plainPrefix(string(b)) {
				lookFits(t, ids, string(b))
			} else {
				lookIs(t, ids, string(b), api.Cell{}, api.ErrForm)
			}
		}
	}
}

// place is a set and a prefix.
type place struct {
	ids    []string
	prefix string
}

// places: cells of no ids, one, eight, nine and more, at short, long and the longest prefixes.
func places() []place {
	deep := strings.Repeat("6", 63)
	all := sixteen(deep)
	return []place{
		{nil, ""}, {nil, "0"}, {nil, deep}, {nil, deep + "6"}, {mixed(1, "s"), ""}, {all, deep + "6"}, {mixed(8, "s"), ""}, {all[:8], deep}, {all[8:], "666"},
		{mixed(9, "s"), ""}, {all[:9], deep}, {all, deep}, {all, ""}, {mixed(300, "s"), ""}, {mixed(300, "s"), "7"}, {under("ab", 50), "ab"}, {under("ab", 5), "ab"},
	}
}

// spoilt is what a cell can be made into, and what Check says of it.
type spoilt struct {
	what string
	cell api.Cell
	code api.Errno
}

// spoil: the cell with each of its fields spoilt by turns; with its own sum, and, where its form is wrong, with the sum of what it tells then, so that ErrForm is heard with both.
func spoil(c api.Cell) []spoilt {
	var list []spoilt
	wrong := func(what string, change func(c *api.Cell)) {
		d := c
		d.Ids, d.Kids = slices.Clone(c.Ids), slices.Clone(c.Kids)
		change(&d)
		list = append(list, spoilt{what, d, api.ErrForm}, spoilt{what + ", summed", summed(d), api.ErrForm})
	}
	for _, prefix := range wrongPrefixes() {
		wrong(fmt.Sprintf("prefix %.80q", prefix), func(c *api.Cell) { c.Prefix = prefix })
	}
	for _, count := range []int{math.MinInt, -1 << 30, -8, -1, 1<<30 + 1, 1<<31 - 1, math.MaxInt} {
		wrong(fmt.Sprint("count ", count), func(c *api.Cell) { c.Count = count })
	}
	for at := range len(c.Sum) {
		turned := []byte(c.Sum)
		turned[at] ^= 1 << (at % 8)
		list = append(list, spoilt{fmt.Sprintf("byte %d of the sum", at), with(c, string(turned)), api.ErrSum})
	}
	for _, sum := range []string{"", c.Sum[:31], c.Sum + "\x00", c.Sum + c.Sum, digest(""), digest("l"), digest("k"), strings.Repeat("\x00", 32),
		digest("m" + strings.Join(c.Ids, "") + strings.Join(c.Kids, "")), digest(strings.Join(c.Ids, "") + strings.Join(c.Kids, "")), digitsOf(c.Sum)} {
		if sum != c.Sum {
			list = append(list, spoilt{fmt.Sprintf("sum %x", sum), with(c, sum), api.ErrSum})
		}
	}
	if len(c.Kids) > 0 {
		spoilMany(c, wrong)
	} else {
		spoilFew(c, wrong)
	}
	return list
}

// with: the cell with another sum.
func with(c api.Cell, sum string) api.Cell {
	c.Sum = sum
	return c
}

// spoilFew: what is wrong of a cell that tells ids.
func spoilFew(c api.Cell, wrong func(what string, change func(c *api.Cell))) {
	for count := range 20 {
		if count != c.Count {
			wrong(fmt.Sprint("count ", count), func(c *api.Cell) { c.Count = count })
		}
	}
	beyond := id(strings.Repeat("f", 64))
	wrong("one id more", func(c *api.Cell) { c.Ids = append(c.Ids, beyond) })
	wrong("nine ids", func(c *api.Cell) { c.Ids, c.Count = sixteen(strings.Repeat("6", 63))[:9], 9 })
	wrong("nine ids below the prefix", func(c *api.Cell) {
		c.Ids, c.Count = under(c.Prefix[:min(len(c.Prefix), 60)], 9), 9
	})
	wrong("a kid", func(c *api.Cell) { c.Kids = []string{digest("l")} })
	wrong("an empty kid", func(c *api.Cell) { c.Kids = []string{""} })
	wrong("sixteen kids", func(c *api.Cell) { c.Kids = slices.Repeat([]string{digest("l")}, 16) })
	for at, id := range c.Ids {
		wrong(fmt.Sprint("without the id ", at), func(c *api.Cell) { c.Ids = slices.Delete(c.Ids, at, at+1) })
		wrong(fmt.Sprint("twice the id ", at), func(c *api.Cell) { c.Ids = slices.Insert(c.Ids, at, id) })
		for _, word := range append(wrongIds(), id[:31], id+"\x00", digitsOf(id)) {
			wrong(fmt.Sprintf("%.40x as the id %d", word, at), func(c *api.Cell) { c.Ids[at] = word })
		}
		if at > 0 {
			wrong(fmt.Sprint("the ids ahead of and at ", at, " swapped"), func(c *api.Cell) { c.Ids[at-1], c.Ids[at] = c.Ids[at], c.Ids[at-1] })
			wrong(fmt.Sprint("the id ahead of ", at, " at it"), func(c *api.Cell) { c.Ids[at] = c.Ids[at-1] })
		}
		besides(c, at, wrong)
	}
}

// besides: an id that isn't below the prefix, in place of one; the others are, and they rise.
func besides(c api.Cell, at int, wrong func(what string, change func(c *api.Cell))) {
	for n := range len(c.Prefix) {
		digits := []byte(digitsOf(c.Ids[at]))
		digits[n] = other(digits[n])[0]
		wrong(fmt.Sprintf("the id %d beside the prefix at digit %d", at, n), func(c *api.Cell) { c.Ids[at] = id(string(digits)) })
		wrong(fmt.Sprintf("one id beside the prefix at digit %d", n), func(c *api.Cell) { c.Ids, c.Count = []string{id(string(digits))}, 1 })
		prefix := c.Prefix[:n] + other(c.Prefix[n]) + c.Prefix[n+1:]
		wrong(fmt.Sprintf("another prefix at digit %d", n), func(c *api.Cell) { c.Prefix = prefix })
	}
}

// spoilMany: what is wrong of a cell that tells kids.
func spoilMany(c api.Cell, wrong func(what string, change func(c *api.Cell))) {
	for count := range 9 {
		wrong(fmt.Sprint("count ", count), func(c *api.Cell) { c.Count = count })
	}
	one := id((c.Prefix + strings.Repeat("0", 64))[:64])
	wrong("an id beside kids", func(c *api.Cell) { c.Ids = []string{one} })
	wrong("an empty id beside kids", func(c *api.Cell) { c.Ids = []string{""} })
	wrong("one id, count one, beside kids", func(c *api.Cell) { c.Ids, c.Count = []string{one}, 1 })
	wrong("as many ids beside kids", func(c *api.Cell) { c.Ids, c.Count = sixteen(strings.Repeat("6", 63)), 16 })
	wrong("no kids", func(c *api.Cell) { c.Kids = nil })
	wrong("no kids, but ids", func(c *api.Cell) { c.Ids, c.Kids, c.Count = sixteen(strings.Repeat("6", 63)), nil, 16 })
	wrong("one kid more", func(c *api.Cell) { c.Kids = append(c.Kids, digest("l")) })
	wrong("an empty kid more", func(c *api.Cell) { c.Kids = append(c.Kids, "") })
	wrong("twice the kids", func(c *api.Cell) { c.Kids = append(c.Kids, c.Kids...) })
	wrong("a prefix of 64 digits", func(c *api.Cell) { c.Prefix = strings.Repeat("6", 64) })
	wrong("its prefix, with digits up to 64", func(c *api.Cell) { c.Prefix = (c.Prefix + strings.Repeat("0", 64))[:64] })
	for at, kid := range c.Kids {
		wrong(fmt.Sprint("without the kid ", at), func(c *api.Cell) { c.Kids = slices.Delete(c.Kids, at, at+1) })
		wrong(fmt.Sprint("twice the kid ", at), func(c *api.Cell) { c.Kids = slices.Insert(c.Kids, at, kid) })
		for _, word := range append(wrongIds(), kid[:31], kid+"\x00", digitsOf(kid)) {
			wrong(fmt.Sprintf("%.40x as the kid %d", word, at), func(c *api.Cell) { c.Kids[at] = word })
		}
	}
}

// P10.2, P10.3: each cell that Look makes passes, and with each of its fields spoilt it doesn't; Draw tells Check's error, of all sets alike.
func TestSpoiltCells(t *testing.T) {
	for _, p := range places() {
		c := lookFits(t, p.ids, p.prefix)
		for _, s := range spoil(c) {
			if want := plainCheck(s.cell); want != s.code {
				t.Fatalf("%d ids at %q, %s: the chapter says %d, not %d", c.Count, p.prefix, s.what, want, s.code)
			}
			checkIs(t, s.cell, s.code)
			drawIs(t, p.ids, s.cell, nil, nil, s.code)
			drawIs(t, nil, s.cell, nil, nil, s.code)
		}
	}
}

// P10.2: cells that can be, though no set has them: of any count from 9 to 2^30, with any sums of kids.
func TestCellsOfNoSet(t *testing.T) {
	none := slices.Repeat([]string{digest("l")}, 16)
	zeros := slices.Repeat([]string{strings.Repeat("\x00", 32)}, 16)
	for _, kids := range [][]string{none, zeros, mixed(16, "k"), slices.Repeat(mixed(1, "k"), 16)} {
		for _, prefix := range []string{"", "f", "0123456789abcdef", strings.Repeat("6", 62), strings.Repeat("6", 63)} {
			for _, count := range []int{9, 10, 16, 17, 1024, 1<<30 - 1, 1 << 30} {
				c := summed(api.Cell{Prefix: prefix, Count: count, Kids: kids})
				checkIs(t, c, api.OK)
				for _, ids := range [][]string{nil, sixteen(strings.Repeat("6", 63)), mixed(40, "k")} {
					drawFits(t, ids, c)
				}
			}
		}
	}
	checkIs(t, api.Cell{}, api.ErrSum)
	checkIs(t, api.Cell{Sum: digest("l"), Ids: []string{}, Kids: []string{}}, api.OK)
}

// P10.3: kids with the sums of no ids are asked for nowhere, others at each digit where they aren't the set's.
func TestDrawOfKidsByTheDigit(t *testing.T) {
	own := joined(under("a0", 9), under("a7", 3), under("af", 30), mixed(20, "m"))
	for _, prefix := range []string{"a", "", "ab", "af", strings.Repeat("a", 63)} {
		mine := make([]string, 16)
		for k := range mine {
			mine[k] = plainSum(own, prefix+fmt.Sprintf("%x", k))
		}
		for at := range 16 {
			for _, base := range [][]string{mine, slices.Repeat([]string{digest("l")}, 16), mixed(16, "k")} {
				for _, sum := range []string{digest("l"), mine[at], mine[(at+1)%16], digest("k"), digest("x")} {
					kids := slices.Clone(base)
					kids[at] = sum
					drawFits(t, own, summed(api.Cell{Prefix: prefix, Count: 99, Kids: kids}))
					drawFits(t, nil, summed(api.Cell{Prefix: prefix, Count: 99, Kids: kids}))
				}
			}
		}
	}
	all := strings.Split("a0 a1 a2 a3 a4 a5 a6 a7 a8 a9 aa ab ac ad ae af", " ")
	drawIs(t, own, summed(api.Cell{Prefix: "a", Count: 16, Kids: mixed(16, "k")}), nil, all, api.OK)
	drawIs(t, own, summed(api.Cell{Prefix: "a", Count: 16, Kids: slices.Repeat([]string{digest("l")}, 16)}), nil, nil, api.OK)
}

// P10.3: a set that has few ids where the cell has kids: its sums are those at the longer prefixes all the same.
func TestDrawOfKidsIntoFew(t *testing.T) {
	theirs := sixteen("")
	for count := range 17 {
		var want []string
		for k := count; k < 16; k++ {
			want = append(want, fmt.Sprintf("%x", k))
		}
		drawIs(t, theirs[:count], plainCell(theirs, ""), nil, want, api.OK)
	}
	two := joined(under("3", 6), under("c", 6))
	drawIs(t, plainBelow(two, "3"), plainCell(two, ""), nil, []string{"c"}, api.OK)
	drawIs(t, plainBelow(two, "c"), plainCell(two, ""), nil, []string{"3"}, api.OK)
	drawIs(t, two[1:], plainCell(two, ""), nil, []string{"3"}, api.OK)
	// What the set has more is asked for where the other one has ids, too, and nowhere else.
	drawIs(t, joined(two, []string{id("8")}), plainCell(two, ""), nil, nil, api.OK)
	drawIs(t, joined(two, []string{id("c")}), plainCell(two, ""), nil, []string{"c"}, api.OK)
}

// P10.3: a cell without kids: those of its ids that aren't in the set, whether none, some or all are lacking, whether the set has many ids or few there.
func TestDrawOfFew(t *testing.T) {
	for _, prefix := range []string{"", "9", "9c", strings.Repeat("9", 60)} {
		theirs := under(prefix, 8)
		c := lookFits(t, theirs, prefix)
		beside := []string{id(""), strings.Repeat("\xff", 32)}
		for bits := range 256 {
			var own, lacks []string
			for k, id := range theirs {
				if bits>>k&1 == 1 {
					own = append(own, id)
				} else {
					lacks = append(lacks, id)
				}
			}
			drawIs(t, own, c, lacks, nil, api.OK)
			drawIs(t, joined(own, beside), c, lacks, nil, api.OK)
			more := minus(under(prefix, 60)[20:], lacks)
			drawIs(t, joined(own, more), c, lacks, nil, api.OK)
		}
	}
}

// P10.3: of all sets, and the cells of all others at one prefix.
func TestDrawOfAllSets(t *testing.T) {
	for _, theirs := range sets() {
		for _, prefix := range []string{"", "7", "5", strings.Repeat("7", 60), strings.Repeat("0", 62)} {
			c := plainCell(theirs, prefix)
			for _, own := range sets() {
				if len(own) <= 100 {
					drawFits(t, own, c)
				}
			}
			drawIs(t, theirs, c, nil, nil, api.OK)
		}
	}
}

// P10.3: a list that is no set is ErrArg, beside a cell with each fault and one without.
func TestDrawOfNoSet(t *testing.T) {
	good := plainCell(mixed(3, "g"), "")
	cells := []api.Cell{good, plainCell(mixed(30, "g"), ""), {Prefix: "A"}, {Count: -1}, with(good, ""), {}, {Prefix: strings.Repeat("0", 65), Ids: []string{"x"}}}
	for _, list := range noSets() {
		for _, c := range cells {
			drawIs(t, list, c, nil, nil, api.ErrArg)
		}
	}
	for _, s := range spoil(good) {
		drawIs(t, []string{id("1"), id("1")}, s.cell, nil, nil, api.ErrArg)
		drawIs(t, good.Ids, s.cell, nil, nil, s.code)
	}
}

// P10.2, P10.3: ErrForm comes ahead of ErrSum.
func TestFormAheadOfSum(t *testing.T) {
	for _, p := range places() {
		for _, s := range spoil(plainCell(p.ids, p.prefix)) {
			for _, sum := range []string{"", digest("x")} {
				checkIs(t, with(s.cell, sum), plainCheck(with(s.cell, sum)))
				if s.code == api.ErrForm {
					checkIs(t, with(s.cell, sum), api.ErrForm)
				}
			}
		}
	}
}

// drawnAll goes through P10.4 with two sets, and checks that just what the first one lacks is told, each once; with the last of the prefixes next, or the first of them.
func drawnAll(t *testing.T, own, theirs []string, last bool) {
	t.Helper()
	var told []string
	asked := map[string]bool{}
	for left := []string{""}; len(left) > 0; {
		at := 0
		if last {
			at = len(left) - 1
		}
		prefix := left[at]
		left = slices.Delete(left, at, at+1)
		if asked[prefix] {
			t.Fatalf("the prefix %q is told twice", prefix)
		}
		asked[prefix] = true
		c, e := trie.Look(theirs, prefix)
		if e != api.OK || trie.Check(c) != api.OK {
			t.Fatalf("cell at %q: %d, %d", prefix, e, trie.Check(c))
		}
		lacks, prefixes, e := trie.Draw(own, c)
		if e != api.OK {
			t.Fatalf("Draw at %q: %d", prefix, e)
		}
		told = append(told, lacks...)
		left = append(left, prefixes...)
	}
	slices.Sort(told)
	want := minus(theirs, own)
	if !slices.Equal(told, want) {
		t.Fatalf("of %d and %d ids were told %s, not %s", len(own), len(theirs), show(told), show(want))
	}
	// At each length but 0 no more prefixes are told than there are ids that one of the sets lacks.
	if most := 1 + idDigits*(len(want)+len(minus(own, theirs))); len(asked) > most {
		t.Fatalf("%d prefixes were asked for, not %d at most", len(asked), most)
	}
}

// P10.4: pairs of sets of few and of many ids: alike, apart, one within the other, and with ids that begin alike.
func TestDrawnWhole(t *testing.T) {
	for _, own := range sets() {
		for k, theirs := range sets() {
			// Of large sets some pairs will do.
			if len(own)+len(theirs) > 40 && (testing.Short() || (len(own)+k)%9 != 0) {
				continue
			}
			drawnAll(t, own, theirs, k%2 == 0)
			drawnAll(t, own, joined(own, theirs), true)
			drawnAll(t, joined(own, theirs), theirs, false)
		}
	}
}

// P10.4: pairs of sets by a rule, whose ids are some of few that begin alike for some digits.
func TestDrawnWholeOfMixedSets(t *testing.T) {
	r := rand.New(rand.NewSource(10))
	for round := range 124 {
		deep := strings.Repeat("3", round%62)
		all := joined(under(deep, 12), under(deep+"3", 12), sixteen(deep + "30")[:r.Intn(17)], mixed(r.Intn(30), "r"))
		own, theirs := some(r, all), some(r, all)
		drawnAll(t, own, theirs, round%2 == 0)
		drawnAll(t, theirs, own, round%2 == 1)
		prefix := digitsOf(all[r.Intn(len(all))])[:r.Intn(idDigits+1)]
		drawFits(t, own, lookFits(t, theirs, prefix))
	}
}

// some: some of a set, by a share that is itself mixed.
func some(r *rand.Rand, all []string) []string {
	var list []string
	share := r.Intn(101)
	for _, id := range all {
		if r.Intn(100) < share {
			list = append(list, id)
		}
	}
	return list
}

// P10.4: large sets that are nearly alike are told apart by few cells.
func TestFewCellsDo(t *testing.T) {
	own := mixed(5000, "f")
	theirs := joined(own[:2500], own[2501:], mixed(1, "new"))
	cells := 0
	for left := []string{""}; len(left) > 0; left = left[1:] {
		c, _ := trie.Look(theirs, left[0])
		_, prefixes, _ := trie.Draw(own, c)
		left = append(left, prefixes...)
		cells++
	}
	if cells > 10 {
		t.Errorf("%d cells were asked for", cells)
	}
	drawnAll(t, own, theirs, false)
	drawnAll(t, theirs, own, true)
}

// scribble: each place of a list, and its spare room, gets another text.
func scribble(list []string) {
	for k := range list[:cap(list)] {
		list[:cap(list)][k] = "scribbled"
	}
}

// P10.4, rule 3: lists handed in and lists answered that are changed afterwards change no later answer, and no earlier one.
func TestNewMemory(t *testing.T) {
	for _, p := range places() {
		ids := slices.Clone(p.ids)
		want := plainCell(p.ids, p.prefix)
		first, _ := trie.Look(ids, p.prefix)
		second, _ := trie.Look(ids, p.prefix)
		scribble(first.Ids)
		scribble(first.Kids)
		if !slices.Equal(ids, p.ids) || !sameCell(second, want) {
			t.Fatalf("Look at %q shares its cell", p.prefix)
		}
		lookIs(t, ids, p.prefix, want, api.OK)
		scribble(ids)
		if !sameCell(second, want) {
			t.Fatalf("Look at %q keeps the list", p.prefix)
		}
		lookIs(t, p.ids, p.prefix, want, api.OK)
	}
}

// P10.4, rule 3: the same of Draw's lists.
func TestNewMemoryOfDraw(t *testing.T) {
	for _, p := range places() {
		for _, own := range [][]string{nil, mixed(3, "s"), mixed(200, "s"), sixteen(strings.Repeat("6", 63))[4:]} {
			c := plainCell(p.ids, p.prefix)
			lacks, prefixes, _ := plainDraw(own, c)
			ids, kids := slices.Clone(c.Ids), slices.Clone(c.Kids)
			handed := slices.Clone(own)
			mine := api.Cell{Prefix: c.Prefix, Count: c.Count, Sum: c.Sum, Ids: ids, Kids: kids}
			firstIds, firstPrefixes, _ := trie.Draw(handed, mine)
			secondIds, secondPrefixes, _ := trie.Draw(handed, mine)
			scribble(firstIds)
			if len(firstPrefixes) > 0 && firstPrefixes[0] == "scribbled" {
				t.Fatal("two lists of one answer share memory")
			}
			scribble(firstPrefixes)
			if !sameCell(mine, c) || !slices.Equal(handed, own) {
				t.Fatalf("Draw at %q shares what was handed in", p.prefix)
			}
			scribble(ids)
			scribble(kids)
			scribble(handed)
			if !slices.Equal(secondIds, lacks) || !slices.Equal(secondPrefixes, prefixes) {
				t.Fatalf("Draw at %q keeps what was handed in", p.prefix)
			}
			drawIs(t, own, c, lacks, prefixes, api.OK)
		}
	}
}

// P10.1 to P10.3, rule 2: nil lists and empty ones are the same.
func TestNilAndEmpty(t *testing.T) {
	none := api.Cell{Sum: digest("l")}
	for _, empty := range [][]string{nil, {}} {
		for _, kids := range [][]string{nil, {}} {
			c := with(api.Cell{Ids: empty, Kids: kids}, none.Sum)
			for _, own := range [][]string{nil, {}, mixed(20, "a")} {
				if l, p, e := trie.Draw(own, c); len(l) != 0 || len(p) != 0 || e != api.OK || trie.Check(c) != api.OK {
					t.Error("of nothing: ", l, p, e)
				}
			}
		}
		if c, e := trie.Look(empty, ""); e != api.OK || !sameCell(c, none) {
			t.Error("Look of nothing: ", c, e)
		}
		many := plainCell(mixed(30, "a"), "")
		many.Ids = empty
		if e := trie.Check(many); e != api.OK {
			t.Error("Check of many: ", e)
		}
	}
}

// P1: all calls end at once with many ids that begin alike for as many digits as they can.
func TestManyIdsThatBeginAlike(t *testing.T) {
	if testing.Short() {
		t.Skip("many ids")
	}
	ids := under(strings.Repeat("0", 60), 2000)
	lookFits(t, ids, "")
	lookFits(t, ids, strings.Repeat("0", 59))
	drawnAll(t, ids[:1990], ids, false)
	drawnAll(t, nil, ids, true)
}

// cut: bytes as a list: pieces of so many, and what is left.
func cut(s string, size int) []string {
	var list []string
	for len(s) > 0 {
		n := min(size, len(s))
		list = append(list, s[:n])
		s = s[n:]
	}
	return list
}

// P1, P10.1 to P10.3: any bytes in all fields, held against the chapter's words.
func FuzzEachCall(f *testing.F) {
	few, many := plainCell(mixed(3, "z"), ""), plainCell(mixed(30, "z"), "")
	f.Add("", "", 0, "", "", "", 32)
	f.Add(strings.Join(mixed(3, "z"), ""), few.Prefix, few.Count, few.Sum, strings.Join(few.Ids, ""), "", 32)
	f.Add(strings.Join(mixed(20, "z"), ""), "0", many.Count, many.Sum, "", strings.Join(many.Kids, ""), 32)
	f.Add("abc", "\xff", -1, "x", "y", "z", 1)
	f.Fuzz(func(t *testing.T, own, prefix string, count int, sum, ids, kids string, size int) {
		if size < 1 || size > 64 || len(own) > 1<<12 {
			return
		}
		list := cut(own, size)
		for _, ids := range [][]string{list, setOf(cut(own, 32)...)} {
			if c, e := trie.Look(ids, prefix); e == api.OK {
				checkIs(t, c, api.OK)
				lookFits(t, ids, prefix)
			}
		}
		c := api.Cell{Prefix: prefix, Count: count, Sum: sum, Ids: cut(ids, 32), Kids: cut(kids, size)}
		for _, c := range []api.Cell{c, summed(c)} {
			checkIs(t, c, plainCheck(c))
			drawFits(t, list, c)
			drawFits(t, setOf(list...), c)
		}
	})
}
