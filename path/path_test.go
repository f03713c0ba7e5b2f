package path_test

import (
	"bytes"
	"fmt"
	"slices"
	"strings"
	"testing"

	"reliquary/api"
	"reliquary/path"
)

// The promises by the chapter's own words, byte by byte and pair by pair, to hold the answers against.

// isName: whether a text is a name.
func isName(s string) bool {
	for k := range len(s) {
		if s[k] == 0x2f || s[k] == 0 {
			return false
		}
	}
	return len(s) >= 1 && len(s) <= 255 && s != "." && s != ".."
}

// pieces: what stands between two / or the ends of a text.
func pieces(s string) []string {
	var list []string
	begin := 0
	for k := range len(s) {
		if s[k] == '/' {
			list = append(list, s[begin:k])
			begin = k + 1
		}
	}
	return append(list, s[begin:])
}

// faultOf: the error of pieces that a path is to be made of.
func faultOf(list []string) api.Errno {
	for _, s := range list {
		if !isName(s) {
			return api.ErrName
		}
	}
	switch {
	case len(list) == 0:
		return api.ErrName
	case len(list) > 64:
		return api.ErrDeep
	}
	return api.OK
}

// isPath: whether a text is a path.
func isPath(s string) bool { return faultOf(pieces(s)) == api.OK }

// compare: how two texts stand, name by name, and of one name byte by byte.
func compare(a, b string) int {
	if !isPath(a) || !isPath(b) {
		return 0
	}
	x, y := pieces(a), pieces(b)
	for k := range min(len(x), len(y)) {
		if c := bytes.Compare([]byte(x[k]), []byte(y[k])); c != 0 {
			return c
		}
	}
	return min(1, max(-1, len(x)-len(y)))
}

// within: whether both are paths, and the second one has more names and begins with those of the first one.
func within(folder, s string) bool {
	if !isPath(folder) || !isPath(s) {
		return false
	}
	x, y := pieces(folder), pieces(s)
	return len(y) > len(x) && slices.Equal(y[:len(x)], x)
}

// check: each place against all ahead of it.
func check(list []string) (int, api.Errno) {
	for k, s := range list {
		if e := faultOf(pieces(s)); e != api.OK {
			return k, e
		}
	}
	for k, s := range list {
		twice, clash := false, false
		for _, ahead := range list[:k] {
			twice = twice || ahead == s
			clash = clash || within(ahead, s) || within(s, ahead)
		}
		switch {
		case twice:
			return k, api.ErrTwice
		case clash:
			return k, api.ErrClash
		}
	}
	return 0, api.OK
}

// deep: a path of so many names.
func deep(n int) string { return strings.TrimSuffix(strings.Repeat("a/", n), "/") }

// long: a name of so many bytes, if they aren't too many.
func long(n int) string { return strings.Repeat("n", n) }

// one: a text of one byte.
func one(c int) string { return string([]byte{byte(c)}) }

// names are some of each kind, the ends of all limits among them.
func names() []string {
	return []string{"a", "b", "ab", "a.b", "a.", ".a", "..a", "...", "....", ". ", " ", ".\x01", "..\xff", "-", "0", "A",
		"\x01", "\x2e\x2e\x2e", "\x30", "\x7f", "\x80", "\xff", "\xff\xff", "é", "\xe2\x28", "a\\b", "a\nb", long(2), long(254), long(255),
		strings.Repeat("\xff", 255), strings.Repeat(".", 255), strings.Repeat("é", 127) + "e"}
}

// noNames are texts that are no names, each for one reason or more.
func noNames() []string {
	return []string{"", ".", "..", "/", "//", "\x00", "a/b", "/a", "a/", "a\x00", "\x00a", "a\x00b", "./", "../..", ".\x00", long(256),
		long(257), long(511), long(512), long(1 << 16), strings.Repeat(".", 256), strings.Repeat("é", 128), long(255) + "\x00", long(254) + "/"}
}

// paths are some of each kind, with many that begin alike.
func paths() []string {
	list := names()
	for _, n := range []int{2, 3, 4, 63, 64} {
		list = append(list, deep(n))
	}
	return append(list, "a/b", "a/b/c", "a/bc", "a/b.c", "a/b-c", "a/b0", "a/c", "a-b", "a-b/c", "a.b/a", "a0b", "ab/a", "ab/c", "b/a", "a/..b",
		".../...", "a/\x01", "a/\xff", "a\x01", "a\xff", "a\x01/b", "a\xff/b", "\x01/\x01", "\xff/\xff", "\xff/\x01", "é/é",
		long(255)+"/"+long(255), long(254)+"/"+long(255), deep(63)+"/b", deep(63)+"/"+long(255),
		strings.TrimSuffix(strings.Repeat(long(255)+"/", 64), "/"))
}

// noPaths are texts that are no paths, since a piece is no name or since there are too many.
func noPaths() []string {
	list := []string{"", "/", "//", "///", "/a", "a/", "a//b", "//a", "a//", "/a/b", "a/b/", "a/./b", "a/../b", "./a", "../a", "a/.", "a/..",
		".", "..", "\x00", "a\x00", "a/\x00", "\x00/a", "a/b\x00c", long(256), long(256) + "/a", "a/" + long(256), strings.Repeat("/", 64)}
	for _, n := range []int{65, 66, 128, 129, 256 + 64, 1<<10 + 1} {
		list = append(list, deep(n))
	}
	return append(list, deep(65)+"/", "/"+deep(65), deep(64)+"/", "/"+deep(64), deep(64)+"/.", deep(64)+"/a/..", "../"+deep(64))
}

// P5.1: the lengths around the limits, of bytes of all sorts.
func TestGoodHangsOnTheLength(t *testing.T) {
	for n := range 600 {
		for _, c := range []string{"a", " ", "\x01", "\x2e", "\x30", "\x7f", "\x80", "\xff"} {
			want := n >= 1 && n <= 255 && (c != "." || n > 2)
			if got := path.Good(strings.Repeat(c, n)); got != want {
				t.Errorf("Good of %d bytes %q: %v", n, c, got)
			}
		}
	}
	for _, n := range []int{256 + 1, 512 + 1, 1 << 16, 1<<16 + 1, 1<<16 + 255, 1 << 20} {
		if path.Good(long(n)) {
			t.Errorf("Good of %d bytes", n)
		}
	}
}

// P5.1: each byte alone, and at each place of names of some lengths.
func TestGoodOfEachByteAtEachPlace(t *testing.T) {
	for c := range 256 {
		if got, want := path.Good(one(c)), c != 0 && c != '/' && c != '.'; got != want {
			t.Errorf("Good of the byte %02x alone: %v", c, got)
		}
		for _, n := range []int{2, 3, 8, 255} {
			for at := range n {
				s := long(at) + one(c) + long(n-at-1)
				if got, want := path.Good(s), c != 0 && c != '/'; got != want {
					t.Errorf("Good of %d bytes with %02x at %d: %v", n, c, at, got)
				}
			}
		}
	}
}

// P5.1: "." and ".." are none; what begins or ends with them is a name, if nothing else is wrong.
func TestGoodOfDots(t *testing.T) {
	for c := range 256 {
		for _, dots := range []string{".", "..", "..."} {
			want := c != 0 && c != '/' && (c != '.' || dots != ".")
			if x, y := path.Good(dots+one(c)), path.Good(one(c)+dots); x != want || y != want {
				t.Errorf("Good of %s with %02x behind it and ahead of it: %v, %v", dots, c, x, y)
			}
		}
	}
}

// P5.1: names, and what is none.
func TestGood(t *testing.T) {
	for _, s := range names() {
		if !path.Good(s) {
			t.Errorf("Good(%.20q) is false", s)
		}
	}
	for _, s := range noNames() {
		if path.Good(s) {
			t.Errorf("Good(%.20q) is true", s)
		}
	}
}

// splitIs checks what Split answers.
func splitIs(t *testing.T, s string, want []string, code api.Errno) {
	t.Helper()
	if got, e := path.Split(s); !slices.Equal(got, want) || e != code {
		t.Errorf("Split(%.40q): %.80q, %d; not %.80q, %d", s, got, e, want, code)
	}
}

// joinIs checks what Join answers, and that the list stays as it was.
func joinIs(t *testing.T, list []string, want string, code api.Errno) {
	t.Helper()
	before := slices.Clone(list)
	if got, e := path.Join(list); got != want || e != code {
		t.Errorf("Join(%.80q): %.40q, %d; not %.40q, %d", list, got, e, want, code)
	}
	if !slices.Equal(list, before) {
		t.Errorf("Join(%.80q) changed the list", before)
	}
}

// P5.1: the chapter's examples, and the places at which a / may stand.
func TestSplitExamples(t *testing.T) {
	splitIs(t, "a/b", []string{"a", "b"}, api.OK)
	for _, s := range []string{"a//b", "/a", "", "a/..", "a/", "/", "//", "/a/", "a/b/", "/a/b", "a///b", "a/b//", "//a/b"} {
		splitIs(t, s, nil, api.ErrName)
	}
}

// P5.1: each name as a path, and at each place of a path of three.
func TestSplitAndJoinOfNames(t *testing.T) {
	for _, s := range names() {
		splitIs(t, s, []string{s}, api.OK)
		joinIs(t, []string{s}, s, api.OK)
		for _, other := range names() {
			list := []string{s, other, s}
			joined := s + "/" + other + "/" + s
			splitIs(t, joined, list, api.OK)
			joinIs(t, list, joined, api.OK)
		}
	}
}

// P5.1: each text that is no name, at each place.
func TestSplitAndJoinOfNoNames(t *testing.T) {
	for _, s := range noNames() {
		joinIs(t, []string{s}, "", api.ErrName)
		joinIs(t, []string{s, s}, "", api.ErrName)
		for at := range 5 {
			list := slices.Insert([]string{"a", "b", "c", "d"}, at, s)
			joinIs(t, list, "", api.ErrName)
			if faultOf(pieces(s)) != api.OK { // "a/b" is no name, but two
				splitIs(t, strings.Join(list, "/"), nil, api.ErrName)
			}
		}
	}
}

// P5.1: each byte, in a name of a path: 2F parts it, 00 makes it none.
func TestSplitOfEachByte(t *testing.T) {
	for c := range 256 {
		s := "x/a" + one(c) + "b/y"
		switch c {
		case 0:
			splitIs(t, s, nil, api.ErrName)
			joinIs(t, []string{"x", "a" + one(c) + "b", "y"}, "", api.ErrName)
		case '/':
			splitIs(t, s, []string{"x", "a", "b", "y"}, api.OK)
			joinIs(t, []string{"x", "a" + one(c) + "b", "y"}, "", api.ErrName)
		default:
			splitIs(t, s, []string{"x", "a" + one(c) + "b", "y"}, api.OK)
			joinIs(t, []string{"x", "a" + one(c) + "b", "y"}, s, api.OK)
		}
	}
}

// P5.1: each number of names around the limit.
func TestSplitAndJoinOfEachDepth(t *testing.T) {
	for n := 1; n < 200; n++ {
		list := slices.Repeat([]string{"a"}, n)
		if n <= 64 {
			splitIs(t, deep(n), list, api.OK)
			joinIs(t, list, deep(n), api.OK)
			continue
		}
		splitIs(t, deep(n), nil, api.ErrDeep)
		joinIs(t, list, "", api.ErrDeep)
	}
	for _, n := range []int{256, 257, 320, 1 << 16, 1<<16 + 1, 1<<16 + 64} {
		splitIs(t, deep(n), nil, api.ErrDeep)
		joinIs(t, slices.Repeat([]string{"a"}, n), "", api.ErrDeep)
	}
}

// P5.1: of too many pieces one that is no name, at each place, counts ahead of their number.
func TestNoNameAmidTooMany(t *testing.T) {
	for _, n := range []int{65, 66, 130} {
		for at := range n {
			for _, s := range []string{"", ".", "..", "\x00", long(256)} {
				list := slices.Repeat([]string{"a"}, n)
				list[at] = s
				splitIs(t, strings.Join(list, "/"), nil, api.ErrName)
				joinIs(t, list, "", api.ErrName)
			}
			list := slices.Repeat([]string{"a"}, n)
			list[at] = "b/c"
			joinIs(t, list, "", api.ErrName)
		}
	}
}

// P5.1: no names at all.
func TestJoinOfNothing(t *testing.T) {
	joinIs(t, nil, "", api.ErrName)
	joinIs(t, []string{}, "", api.ErrName)
	joinIs(t, make([]string, 0, 8), "", api.ErrName)
	joinIs(t, make([]string, 3), "", api.ErrName)
	joinIs(t, make([]string, 65), "", api.ErrName)
}

// P5.4: Join of Split, and Split of Join, give what they were made of.
func TestSplitAndJoinGiveBack(t *testing.T) {
	for _, s := range paths() {
		list, e := path.Split(s)
		if e != api.OK {
			t.Errorf("Split(%.40q): %d", s, e)
		}
		joinIs(t, list, s, api.OK)
	}
	for _, s := range noPaths() {
		splitIs(t, s, nil, faultOf(pieces(s)))
	}
	all := names()
	for n := 1; n <= 64; n++ {
		list := make([]string, n)
		for k := range list {
			list[k] = all[(n*n+k*7)%len(all)]
		}
		s, e := path.Join(list)
		if e != api.OK {
			t.Errorf("Join(%.80q): %d", list, e)
		}
		splitIs(t, s, list, api.OK)
	}
}

// Rule 3: what Split answers may be written, and grown, and no later answer is another one.
func TestSplitAnswersNewMemory(t *testing.T) {
	a, _ := path.Split("a/b/c")
	b, _ := path.Split("a/b/c")
	a[0], a[2] = "x", "y"
	a = append(a[:1], "z", "z", "z")
	if !slices.Equal(b, []string{"a", "b", "c"}) {
		t.Errorf("another answer was changed: %q, by %q", b, a)
	}
	splitIs(t, "a/b/c", []string{"a", "b", "c"}, api.OK)
}

// compareIs checks what Compare answers, both ways round.
func compareIs(t *testing.T, a, b string, want int) {
	t.Helper()
	if x, y := path.Compare(a, b), path.Compare(b, a); x != want || y != -want {
		t.Errorf("Compare(%.40q, %.40q): %d, and %d the other way round; not %d", a, b, x, y, want)
	}
}

// P5.2: the chapter's example, and pairs whose bytes stand otherwise than their names.
func TestCompareExamples(t *testing.T) {
	compareIs(t, "a/b", "a.b", -1)
	rising := []string{"\x01", "a", "a/\x01", "a/.b", "a/b", "a/b/a", "a/b/c", "a/b\x01", "a/b-", "a/b.", "a/b0", "a/ba", "a/c", "a/\xff", "a\x01",
		"a\x01/a", "a-", "a-/a", "a.", "a./a", "a.b", "a.b/a", "a0", "aa", "aa/a", "ab", "a\xff", "a\xff/a", "b", "b/a", "\x80", "\xff", "\xff/a"}
	for i, a := range rising {
		for k, b := range rising {
			switch {
			case i < k:
				compareIs(t, a, b, -1)
			case i == k:
				compareIs(t, a, strings.Clone(b), 0)
			}
		}
	}
}

// P5.2: each two bytes as the names, at the end of names and in the middle of them.
func TestCompareOfEachTwoBytes(t *testing.T) {
	for x := 1; x < 256; x++ {
		for y := 1; y < 256; y++ {
			if x == '/' || y == '/' {
				continue
			}
			want := min(1, max(-1, x-y))
			if got := path.Compare("a"+one(x), "a"+one(y)); got != want {
				t.Fatalf("Compare of a%02x and a%02x: %d", x, y, got)
			}
			if got := path.Compare("b/"+one(x)+"b/a", "b/"+one(y)+"a"); got != min(1, max(-1, 2*(x-y)+1)) {
				t.Fatalf("Compare of b/%02xb/a and b/%02xa: %d", x, y, got)
			}
		}
		if x != '/' {
			compareIs(t, "a/"+"\xff", "a"+one(x), -1)
			compareIs(t, "a", "a"+one(x), -1)
			compareIs(t, "a", "a/b"+one(x), -1)
		}
	}
}

// P5.2: each two of all sorts, by the chapter's words; what is no path is like all.
func TestCompareAndWithinOfAllSorts(t *testing.T) {
	all := append(paths(), noPaths()...)
	for _, a := range all {
		for _, b := range all {
			if got, want := path.Compare(a, b), compare(a, b); got != want {
				t.Errorf("Compare(%.40q, %.40q): %d, not %d", a, b, got, want)
			}
			if got, want := path.Within(a, b), within(a, b); got != want {
				t.Errorf("Within(%.40q, %.40q): %v, not %v", a, b, got, want)
			}
		}
	}
}

// P5.2: what is no path, in each argument and in both.
func TestNoPathInEachArgument(t *testing.T) {
	for _, s := range noPaths() {
		for _, other := range []string{"a", "\x01", "\xff", "a/b", deep(64), long(255), s, s + "/a", "", "."} {
			compareIs(t, s, other, 0)
			if path.Within(s, other) || path.Within(other, s) {
				t.Errorf("Within of %.40q and %.40q, one way or the other", s, other)
			}
		}
	}
}

// P5.2: a path lies in each folder that it begins with, in no other, and not in itself.
func TestWithinEachFolder(t *testing.T) {
	for n := 1; n <= 66; n++ {
		for k := 1; k <= 66; k++ {
			if got, want := path.Within(deep(n), deep(k)), n < k && k <= 64; got != want {
				t.Errorf("Within of %d names and %d: %v", n, k, got)
			}
		}
	}
	for _, s := range paths() {
		for at := range len(s) {
			if got, want := path.Within(s[:at], s), s[at] == '/'; got != want {
				t.Errorf("Within(%.40q, %.40q): %v", s[:at], s, got)
			}
		}
		if path.Within(s, s) {
			t.Errorf("%.40q lies in itself", s)
		}
	}
	for c := range 256 {
		if got, want := path.Within("a", "a"+one(c)+"b"), c == '/'; got != want {
			t.Errorf("Within of a and a, %02x, b: %v", c, got)
		}
	}
}

// P5.4: no two paths stand alike, and the order is one: sorted, each stands behind all ahead of it.
func TestTheOrderIsOne(t *testing.T) {
	all := paths()
	slices.Sort(all)
	all = slices.Compact(all)
	slices.SortFunc(all, path.Compare)
	for i, a := range all {
		for k, b := range all {
			if got, want := path.Compare(a, b), min(1, max(-1, i-k)); got != want {
				t.Errorf("Compare(%.40q, %.40q): %d, not %d", a, b, got, want)
			}
		}
	}
}

// P5.4: what lies in a folder stands right behind it: nothing else stands between.
func TestWhatLiesInAFolderStandsRightBehind(t *testing.T) {
	all := allOf([]string{"a", "a.", "a\x01", "a0", "b", "-"}, 3)
	slices.SortFunc(all, path.Compare)
	for i, folder := range all {
		inside := 0
		for _, s := range all {
			if path.Within(folder, s) {
				inside++
			}
		}
		for k, s := range all {
			if got, want := path.Within(folder, s), k > i && k <= i+inside; got != want {
				t.Errorf("%q is at %d, with %d in it, %q at %d: Within is %v", folder, i, inside, s, k, got)
			}
		}
	}
}

// allOf: all paths of at most so many names.
func allOf(names []string, depth int) []string {
	all := slices.Clone(names)
	for at := 0; at < len(all); at++ {
		if len(pieces(all[at])) == depth {
			continue
		}
		for _, s := range names {
			all = append(all, all[at]+"/"+s)
		}
	}
	return all
}

// checkIs checks what Check answers, and that the list stays as it was.
func checkIs(t *testing.T, list []string, want int, code api.Errno) {
	t.Helper()
	before := slices.Clone(list)
	if got, e := path.Check(list); got != want || e != code {
		t.Errorf("Check(%.200q): %d, %d; not %d, %d", list, got, e, want, code)
	}
	if !slices.Equal(list, before) {
		t.Errorf("Check(%.200q) changed the list", before)
	}
}

// P5.3: the chapter's example, lists of nothing, and what can be side by side.
func TestCheckOfWhatIsRight(t *testing.T) {
	checkIs(t, nil, 0, api.OK)
	checkIs(t, []string{}, 0, api.OK)
	for _, s := range paths() {
		checkIs(t, []string{s}, 0, api.OK)
	}
	checkIs(t, []string{"b", "a"}, 0, api.OK)
	checkIs(t, []string{"a.b", "a", "ab", "a-b", "a0", "a\x01", "a\xff"}, 0, api.OK)
	checkIs(t, []string{"a/bc", "a/b", "a.b/b", "ab/b", "b/a", "aa/b"}, 0, api.OK)
	checkIs(t, []string{deep(63) + "/b", deep(64), deep(62) + "/b"}, 0, api.OK)
}

// P5.3: one path twice, near and far, and more than twice.
func TestCheckTwice(t *testing.T) {
	for _, s := range []string{"a", "a/b", deep(64), long(255), "x/" + long(255)} {
		checkIs(t, []string{s, strings.Clone(s)}, 1, api.ErrTwice)
		checkIs(t, []string{s, s, s}, 1, api.ErrTwice)
		checkIs(t, []string{"b", s, "c", "d", s, s, "b"}, 4, api.ErrTwice)
		checkIs(t, []string{s, "b", "c", "d/e", "b", s}, 4, api.ErrTwice)
	}
}

// P5.3: a path and one that lies in it, in both orders, near and far.
func TestCheckClash(t *testing.T) {
	checkIs(t, []string{"a", "b", "a/c"}, 2, api.ErrClash)
	checkIs(t, []string{"a/c", "b", "a"}, 2, api.ErrClash)
	for n := 1; n <= 64; n++ {
		for k := 1; k <= 64; k++ {
			if n != k {
				checkIs(t, []string{deep(n), deep(k)}, 1, api.ErrClash)
				checkIs(t, []string{"b", deep(n), "b.a", "a.b", "c/a", deep(k), "d"}, 5, api.ErrClash)
			}
		}
	}
	checkIs(t, []string{"a/b", "a.b", "a-b", "a/c", "a/b/c/d"}, 4, api.ErrClash)
	checkIs(t, []string{"a/b/c/d", "a.b", "a-b", "a/c", "a/b"}, 4, api.ErrClash)
}

// P5.3: paths between which others stand in order: the first place counts, not the first pair.
func TestCheckFindsTheFirstPlace(t *testing.T) {
	checkIs(t, []string{"a/b/c", "a/d", "x", "a"}, 3, api.ErrClash)
	checkIs(t, []string{"a/b/c", "a/b", "a"}, 1, api.ErrClash)
	checkIs(t, []string{"a", "a/b/c", "a/b"}, 1, api.ErrClash)
	checkIs(t, []string{"a/b", "a/b/c", "a", "a"}, 1, api.ErrClash)
	checkIs(t, []string{"z", "y", "z", "a", "a/b"}, 2, api.ErrTwice)
	checkIs(t, []string{"a", "z", "a/b", "z"}, 2, api.ErrClash)
	checkIs(t, []string{"a", "z", "z", "a/b"}, 2, api.ErrTwice)
	checkIs(t, []string{"a", "z", "a/b", "a/c", "a/b"}, 2, api.ErrClash)
}

// P5.3: a place that has both errors has one ahead of it that has ErrClash; it alone is told.
func TestCheckOfBothErrors(t *testing.T) {
	checkIs(t, []string{"a", "a/b", "a"}, 1, api.ErrClash)
	checkIs(t, []string{"a/b", "a", "a/b"}, 1, api.ErrClash)
	checkIs(t, []string{"a", "a/b", "a/b", "a"}, 1, api.ErrClash)
	checkIs(t, []string{"a", "a", "a/b", "a"}, 1, api.ErrTwice)
}

// P5.3: what is no path, at each place, counts ahead of all else, the first of them first.
func TestCheckOfNoPaths(t *testing.T) {
	for _, s := range noPaths() {
		e := faultOf(pieces(s))
		checkIs(t, []string{s}, 0, e)
		for at := range 5 {
			checkIs(t, slices.Insert([]string{"a", "b", "c", "d"}, at, s), at, e)
			checkIs(t, slices.Insert([]string{"a", "a", "a/b", "b"}, at, s), at, e)
		}
		checkIs(t, []string{"a", s, s, "a"}, 1, e)
		checkIs(t, []string{"a", s, "", deep(65)}, 1, e)
	}
	checkIs(t, []string{"a", deep(65), "", "a"}, 1, api.ErrDeep)
	checkIs(t, []string{"a", "", deep(65), "a"}, 1, api.ErrName)
	checkIs(t, []string{"a", "a", ""}, 2, api.ErrName)
	checkIs(t, []string{"a", "a/b", deep(65)}, 2, api.ErrDeep)
}

// P5.3: all lists of four of some that lie in one another, or begin alike, or are none.
func TestCheckOfAllShortLists(t *testing.T) {
	some := []string{"a", "a/b", "a/b/c", "a/c", "a.b", "ab", "b", ""}
	list := make([]string, 4)
	for n := range 8 * 8 * 8 * 8 {
		for k := range list {
			list[k] = some[n>>(3*k)&7]
		}
		at, e := check(list)
		checkIs(t, list, at, e)
	}
}

// P5.3: long lists of paths of few names, mixed, held against each pair.
func TestCheckOfMixedLists(t *testing.T) {
	all := allOf([]string{"a", "b", "a.", "a-", "ab"}, 3)
	x := uint32(1)
	next := func(n int) int {
		x = x*1664525 + 1013904223
		return int(x>>8) % n
	}
	for range 3000 {
		list := make([]string, 1+next(20))
		for k := range list {
			list[k] = all[next(len(all))]
		}
		at, e := check(list)
		checkIs(t, list, at, e)
	}
}

// Rule 3: a list's spare room isn't written either.
func TestSpareRoomStays(t *testing.T) {
	whole := []string{"c", "b", "a", "c", "spare", ""}
	before := slices.Clone(whole)
	path.Check(whole[:3])
	path.Check(whole[:4])
	path.Join(whole[:4])
	if !slices.Equal(whole, before) {
		t.Errorf("%q became %q", before, whole)
	}
}

// P1: very long texts and lists come to an end.
func TestVeryLong(t *testing.T) {
	const n = 1 << 21
	splitIs(t, deep(n), nil, api.ErrDeep)
	splitIs(t, deep(n)+"/", nil, api.ErrName)
	splitIs(t, strings.Repeat("/", n), nil, api.ErrName)
	splitIs(t, long(n), nil, api.ErrName)
	joinIs(t, slices.Repeat([]string{"a"}, n), "", api.ErrDeep)
	compareIs(t, deep(n), "a", 0)
	if path.Good(long(n)) || path.Within(deep(n), deep(n+1)) || path.Within("a", deep(n)) {
		t.Error("a text that is far too long is taken")
	}
	var list []string
	for k := range 1 << 16 {
		list = append(list, fmt.Sprintf("%x/%d/x", k%251, k))
	}
	checkIs(t, list, 0, api.OK)
	checkIs(t, append(list, list[5]), len(list), api.ErrTwice)
	checkIs(t, append(list, list[5]+"/y"), len(list), api.ErrClash)
	checkIs(t, append(list, "0"), len(list), api.ErrClash)
	checkIs(t, slices.Repeat([]string{deep(64)}, 1<<12), 1, api.ErrTwice)
}

// P1: no call panics, whatever it is given, and each answers what the words say.
func FuzzEachCall(f *testing.F) {
	f.Add("", "", "")
	f.Add("a", "a/b", "a.b")
	f.Add("a/b", "b", "a")
	f.Add("a//b", "/a", "a/..")
	f.Add(deep(64), deep(65), long(256))
	f.Add("\x00", "\xff/\xff", "..a/.")
	f.Fuzz(func(t *testing.T, a, b, c string) {
		list := []string{a, b, c}
		for _, s := range list {
			if got, want := path.Good(s), isName(s); got != want {
				t.Errorf("Good(%q): %v", s, got)
			}
			want, code := pieces(s), faultOf(pieces(s))
			if code != api.OK {
				want = nil
			}
			splitIs(t, s, want, code)
		}
		joined, code := strings.Join(list, "/"), faultOf(list)
		if code != api.OK {
			joined = ""
		}
		joinIs(t, list, joined, code)
		compareIs(t, a, b, compare(a, b))
		if got, want := path.Within(a, b), within(a, b); got != want {
			t.Errorf("Within(%q, %q): %v", a, b, got)
		}
		at, code := check(list)
		checkIs(t, list, at, code)
	})
}

func ExampleCheck() {
	fmt.Println(path.Check([]string{"a", "b", "a/c"}))
	fmt.Println(path.Compare("a/b", "a.b"))
	fmt.Println(path.Split("a/b"))
	fmt.Println(path.Split("a//b"))
	// Output:
	// 2 32
	// -1
	// [a b] 0
	// [] 30
}
