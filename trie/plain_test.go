package trie_test

import (
	"crypto/sha256"
	"encoding/hex"
	"fmt"
	"slices"
	"strings"
	"testing"

	"reliquary/api"
	"reliquary/trie"
)

const idDigits = 2 * api.IdSize

// id: the id whose digits begin with some, and go on with zeros.
func id(digits string) string {
	b, err := hex.DecodeString(digits + strings.Repeat("0", idDigits-len(digits)))
	if err != nil {
		panic(err)
	}
	return string(b)
}

// digest: by the standard library, which the program itself may not lean on; so are an id's digits.
func digest(s string) string {
	sum := sha256.Sum256([]byte(s))
	return string(sum[:])
}

func digitsOf(id string) string { return hex.EncodeToString([]byte(id)) }

// setOf: some ids as a set.
func setOf(ids ...string) []string { return slices.Compact(slices.Sorted(slices.Values(ids))) }

// joined: the ids of some sets as one.
func joined(sets ...[]string) []string { return setOf(slices.Concat(sets...)...) }

// mixed: so many ids, without any rule to be seen in their digits, by a word.
func mixed(n int, word string) []string {
	var list []string
	for k := range n {
		list = append(list, digest(fmt.Sprint(word, k)))
	}
	return setOf(list...)
}

// under: so many ids that begin with some digits, and are mixed behind them.
func under(digits string, n int) []string {
	var list []string
	for k := 0; len(list) < n; k++ {
		list = setOf(append(list, id((digits + digitsOf(digest(fmt.Sprint(digits, k))))[:idDigits]))...)
	}
	return list
}

// sixteen: ids that begin with some digits, one at each longer prefix.
func sixteen(digits string) []string {
	var list []string
	for _, next := range "0123456789abcdef" {
		list = append(list, id(digits+string(next)))
	}
	return list
}

// wrongIds: bytes that are no ids, since there are too few or too many of them; of them that rise.
func wrongIds() []string {
	return []string{"", "\x00", strings.Repeat("\x00", 31), strings.Repeat("\x00", 33), strings.Repeat("0", 64), strings.Repeat("\xff", 31),
		strings.Repeat("\xff", 33), strings.Repeat("\xff", 1<<12)}
}

// wrongPrefixes: texts that are none, since a byte is no digit, or there are too many.
func wrongPrefixes() []string {
	return []string{"A", "F", "g", "/", ":", "`", "@", " ", "\x00", "\xff", "\n", "-1", "0x", "é", "0g", "g0", "00000A00", strings.Repeat("0", 63) + "G",
		strings.Repeat("0", 65), strings.Repeat("f", 66), strings.Repeat("0", 64) + "g", strings.Repeat("x", 64), strings.Repeat("ab", 1<<12)}
}

// plainSet, plainPrefix, plainBelow, plainSum, plainCell, plainCheck and plainDraw are the chapter's own words.
func plainSet(ids []string) bool {
	for k := range ids {
		if len(ids[k]) != 32 || k > 0 && strings.Compare(ids[k-1], ids[k]) >= 0 {
			return false
		}
	}
	return true
}

func plainPrefix(s string) bool {
	return len(s) <= 64 && strings.Trim(s, "0123456789abcdef") == "" && strings.IndexFunc(s, func(c rune) bool {
		return !('0' <= c && c <= '9' || 'a' <= c && c <= 'f')
	}) < 0
}

func plainBelow(ids []string, prefix string) []string {
	var list []string
	for _, id := range ids {
		if strings.HasPrefix(digitsOf(id), prefix) {
			list = append(list, id)
		}
	}
	return list
}

func plainSum(ids []string, prefix string) string { return plainCell(ids, prefix).Sum }

func plainCell(ids []string, prefix string) api.Cell {
	list := plainBelow(ids, prefix)
	if len(list) <= 8 {
		return api.Cell{Prefix: prefix, Count: len(list), Sum: digest("\x6c" + strings.Join(list, "")), Ids: list}
	}
	var kids []string
	for d := range 16 {
		kids = append(kids, plainSum(list, prefix+fmt.Sprintf("%x", d)))
	}
	return api.Cell{Prefix: prefix, Count: len(list), Sum: digest("\x6b" + strings.Join(kids, "")), Kids: kids}
}

func plainCheck(c api.Cell) api.Errno {
	if !plainPrefix(c.Prefix) || c.Count < 0 || c.Count > 1<<30 {
		return api.ErrForm
	}
	if c.Count <= 8 {
		if len(c.Ids) != c.Count || !plainSet(c.Ids) || len(plainBelow(c.Ids, c.Prefix)) != len(c.Ids) || len(c.Kids) != 0 {
			return api.ErrForm
		}
		if c.Sum != digest("l"+strings.Join(c.Ids, "")) {
			return api.ErrSum
		}
		return api.OK
	}
	if len(c.Ids) != 0 || len(c.Kids) != 16 || len(c.Prefix) >= 64 {
		return api.ErrForm
	}
	for _, kid := range c.Kids {
		if len(kid) != 32 {
			return api.ErrForm
		}
	}
	if c.Sum != digest("k"+strings.Join(c.Kids, "")) {
		return api.ErrSum
	}
	return api.OK
}

// minus: what one list has, and another one hasn't.
func minus(list, other []string) []string {
	has := map[string]bool{}
	for _, id := range other {
		has[id] = true
	}
	var out []string
	for _, id := range list {
		if !has[id] {
			out = append(out, id)
		}
	}
	return out
}

func plainDraw(ids []string, c api.Cell) ([]string, []string, api.Errno) {
	if !plainSet(ids) {
		return nil, nil, api.ErrArg
	}
	if code := plainCheck(c); code != api.OK {
		return nil, nil, code
	}
	if len(c.Kids) == 0 {
		return minus(c.Ids, ids), nil, api.OK
	}
	var prefixes []string
	for d, kid := range c.Kids {
		longer := c.Prefix + fmt.Sprintf("%x", d)
		if kid != plainSum(ids, longer) && kid != plainSum(nil, longer) {
			prefixes = append(prefixes, longer)
		}
	}
	return nil, prefixes, api.OK
}

// show: a list of bytes, short enough to be read.
func show(list []string) string {
	var b strings.Builder
	fmt.Fprint(&b, len(list), " [")
	for k, s := range list {
		if k == 20 {
			b.WriteString(" ..")
			break
		}
		fmt.Fprintf(&b, " %.40x", s)
	}
	return b.String() + " ]"
}

// sameCell: whether cells are the same; a list without elements may be nil or not.
func sameCell(a, b api.Cell) bool {
	return a.Prefix == b.Prefix && a.Count == b.Count && a.Sum == b.Sum && slices.Equal(a.Ids, b.Ids) && slices.Equal(a.Kids, b.Kids)
}

// roomy: a list with spare room behind it that isn't empty, and how to tell whether list and room are as they were.
func roomy(list []string) ([]string, func() bool) {
	whole := append(slices.Clone(list), "spare", "room")
	before := slices.Clone(whole)
	return whole[:len(list)], func() bool { return slices.Equal(whole, before) }
}

// lookIs checks what Look answers, and that the list stays as it was.
func lookIs(t *testing.T, ids []string, prefix string, want api.Cell, code api.Errno) {
	t.Helper()
	list, stayed := roomy(ids)
	if c, e := trie.Look(list, prefix); e != code || !sameCell(c, want) {
		t.Fatalf("Look(%s, %.80q): %d, count %d, sum %x, ids %s, kids %s; not %d, count %d, sum %x, ids %s, kids %s", show(ids), prefix,
			e, c.Count, c.Sum, show(c.Ids), show(c.Kids), code, want.Count, want.Sum, show(want.Ids), show(want.Kids))
	}
	if !stayed() {
		t.Fatalf("Look(%s, %.80q) changed the list", show(ids), prefix)
	}
}

// lookFits checks Look against the chapter's words, and that Check lets its cell pass.
func lookFits(t *testing.T, ids []string, prefix string) api.Cell {
	t.Helper()
	want := plainCell(ids, prefix)
	lookIs(t, ids, prefix, want, api.OK)
	checkIs(t, want, api.OK)
	return want
}

// checkIs checks what Check answers, and that the cell stays as it was.
func checkIs(t *testing.T, c api.Cell, code api.Errno) {
	t.Helper()
	ids, idsStayed := roomy(c.Ids)
	kids, kidsStayed := roomy(c.Kids)
	if e := trie.Check(api.Cell{Prefix: c.Prefix, Count: c.Count, Sum: c.Sum, Ids: ids, Kids: kids}); e != code {
		t.Fatalf("Check(%.80q, %d, %x, %s, %s): %d, not %d", c.Prefix, c.Count, c.Sum, show(c.Ids), show(c.Kids), e, code)
	}
	if !idsStayed() || !kidsStayed() {
		t.Fatalf("Check(%.80q, %d) changed the cell's lists", c.Prefix, c.Count)
	}
}

// drawIs checks what Draw answers, and that the lists handed in stay as they were.
func drawIs(t *testing.T, ids []string, c api.Cell, lacks, prefixes []string, code api.Errno) {
	t.Helper()
	own, ownStayed := roomy(ids)
	cellIds, idsStayed := roomy(c.Ids)
	kids, kidsStayed := roomy(c.Kids)
	gotLacks, gotPrefixes, e := trie.Draw(own, api.Cell{Prefix: c.Prefix, Count: c.Count, Sum: c.Sum, Ids: cellIds, Kids: kids})
	if e != code || !slices.Equal(gotLacks, lacks) || !slices.Equal(gotPrefixes, prefixes) {
		t.Fatalf("Draw(%s, cell at %.80q of %d): %s, %q, %d; not %s, %q, %d", show(ids), c.Prefix, c.Count,
			show(gotLacks), gotPrefixes, e, show(lacks), prefixes, code)
	}
	if !ownStayed() || !idsStayed() || !kidsStayed() {
		t.Fatalf("Draw(%s, cell at %.80q of %d) changed a list that was handed in", show(ids), c.Prefix, c.Count)
	}
}

// drawFits checks Draw against the chapter's words.
func drawFits(t *testing.T, ids []string, c api.Cell) {
	t.Helper()
	lacks, prefixes, code := plainDraw(ids, c)
	drawIs(t, ids, c, lacks, prefixes, code)
}

// summed: the cell with the sum of what it tells, so that nothing but its form can be wrong.
func summed(c api.Cell) api.Cell {
	lead, list := "l", c.Ids
	if len(c.Kids) > 0 {
		lead, list = "k", c.Kids
	}
	c.Sum = digest(lead + strings.Join(list, ""))
	return c
}
