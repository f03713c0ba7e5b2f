package pack_test

import (
	"bytes"
	"crypto/sha256"
	"fmt"
	"hash/crc32"
	"math/rand"
	"slices"
	"sort"
	"strings"
	"testing"
	"unsafe"

	"reliquary/api"
	"reliquary/pack"
)

// The promises by the chapter's own words, part by part, to hold the answers against.

// id: the digest of bytes, by the library.
func id(s string) string {
	d := sha256.Sum256([]byte(s))
	return string(d[:])
}

// check: the check of bytes, by the library.
func check(s string) int {
	return int(crc32.Checksum([]byte(s), crc32.MakeTable(crc32.Castagnoli)))
}

// num: four bytes, the lowest first.
func num(n int) string {
	var b []byte
	for range 4 {
		b = append(b, byte(n%256))
		n /= 256
	}
	return string(b)
}

// value: the number of the four bytes at a place.
func value(s string, at int) int {
	n := 0
	for k := 3; k >= 0; k-- {
		n = 256*n + int(s[at+k])
	}
	return n
}

// row is 44 bytes of the index.
type row struct {
	id              string
	at, size, check int
}

// rowAt: the k-th 44 bytes of the index.
func rowAt(s string, k int) row {
	at := 1036 + 44*k
	return row{s[at : at+32], value(s, at+32), value(s, at+36), value(s, at+40)}
}

// form is a pack part by part, right or wrong.
type form struct {
	title string
	n     int
	fan   []int
	rows  []row
	data  string
}

// bytes: what a pack of these parts is, with the digest of it all.
func (f form) bytes() string {
	s := []byte(f.title + num(f.n))
	for _, n := range f.fan {
		s = append(s, num(n)...)
	}
	for _, x := range f.rows {
		s = append(s, x.id+num(x.at)+num(x.size)+num(x.check)...)
	}
	s = append(s, f.data...)
	return string(s) + id(string(s))
}

// count: the fan's numbers of ids, each byte and each id one by one.
func count(list []row) []int {
	fan := make([]int, 256)
	for first := range fan {
		for _, x := range list {
			if int(x.id[0]) <= first {
				fan[first]++
			}
		}
	}
	return fan
}

// formOf: the parts of the pack of texts.
func formOf(list []string) form {
	list = slices.Clone(list)
	sort.Slice(list, func(a, b int) bool { return bytes.Compare([]byte(id(list[a])), []byte(id(list[b]))) < 0 })
	f := form{title: "relic001", n: len(list)}
	at := 0
	for _, s := range list {
		f.rows = append(f.rows, row{id(s), at, len(s), check(s)})
		at += len(s)
	}
	f.data = strings.Join(list, "")
	f.fan = count(f.rows)
	return f
}

// under: the parts of a pack of texts under ids that needn't be theirs, in this order.
func under(list ...api.Item) form {
	f := form{title: "relic001", n: len(list)}
	for _, x := range list {
		f.rows = append(f.rows, row{x.Id, len(f.data), len(x.Data), check(x.Data)})
		f.data += x.Data
	}
	f.fan = count(f.rows)
	return f
}

// makeByWords: what Make answers.
func makeByWords(list []string) (string, api.Errno) {
	if len(list) == 0 {
		return "", 1
	}
	if len(list) > 1024 {
		return "", 6
	}
	for _, s := range list {
		if len(s) > 131072 {
			return "", 5
		}
	}
	seen := map[string]int{}
	for _, s := range list {
		seen[s]++
		if seen[s] == 2 {
			return "", 31
		}
	}
	s := formOf(list).bytes()
	if len(s) > 4194304 {
		return "", 5
	}
	return s, 0
}

// inForm: whether bytes are a pack in all but the checks and ids of the data.
func inForm(s string) bool {
	n := value(s, 8)
	if s[:8] != "relic001" || n < 1 || n > 1024 || len(s) < 1036+44*n+32 {
		return false
	}
	var rows []row
	at := 0
	for k := range n {
		x := rowAt(s, k)
		if x.at != at || x.size > 131072 || (k > 0 && bytes.Compare([]byte(rows[k-1].id), []byte(x.id)) >= 0) {
			return false
		}
		rows = append(rows, x)
		at += x.size
	}
	for first, told := range count(rows) {
		if value(s, 12+4*first) != told {
			return false
		}
	}
	return len(s) == 1036+44*n+at+32
}

// readByWords: what Read answers.
func readByWords(s string) ([]api.Item, api.Errno) {
	if len(s) > 4194304 {
		return nil, 5
	}
	if len(s) < 1112 {
		return nil, 3
	}
	if id(s[:len(s)-32]) != s[len(s)-32:] {
		return nil, 20
	}
	if !inForm(s) {
		return nil, 4
	}
	n := value(s, 8)
	var list []api.Item
	for k := range n {
		x := rowAt(s, k)
		data := s[1036+44*n+x.at : 1036+44*n+x.at+x.size]
		if check(data) != x.check || id(data) != x.id {
			return nil, 20
		}
		list = append(list, api.Item{Id: x.id, Data: data})
	}
	return list, 0
}

// findByWords: what Find answers.
func findByWords(s, want string) (string, bool, api.Errno) {
	if len(want) != 32 {
		return "", false, 1
	}
	if len(s) < 1112 {
		return "", false, 3
	}
	n := value(s, 8)
	if s[:8] != "relic001" || n < 1 || n > 1024 || 1036+44*n > len(s)-32 {
		return "", false, 4
	}
	data := s[1036+44*n : len(s)-32]
	lo, hi := 0, value(s, 12+4*int(want[0]))
	if want[0] != 0 {
		lo = value(s, 12+4*(int(want[0])-1))
	}
	if lo > hi || hi > n {
		return "", false, 4
	}
	for k := lo; k <= hi-1; k++ {
		x := rowAt(s, k)
		if x.id != want {
			continue
		}
		if x.size > 131072 || x.at+x.size > len(data) {
			return "", false, 4
		}
		if check(data[x.at:x.at+x.size]) != x.check {
			return "", false, 20
		}
		return data[x.at : x.at+x.size], true, 0
	}
	return "", false, 0
}

// share: whether two texts lie, in part, in one piece of memory.
func share(a, b string) bool {
	if len(a) == 0 || len(b) == 0 {
		return false
	}
	p, q := uintptr(unsafe.Pointer(unsafe.StringData(a))), uintptr(unsafe.Pointer(unsafe.StringData(b)))
	return p < q+uintptr(len(b)) && q < p+uintptr(len(a))
}

// makes: Make of a list answers what the words say, this error or none; what it answers is the pack.
func makes(t *testing.T, what string, list []string, code api.Errno) string {
	t.Helper()
	was := slices.Clone(list)
	s, e := pack.Make(list)
	want, wantE := makeByWords(list)
	if e != code || wantE != code || s != want {
		t.Errorf("%s: Make answers %d bytes, %d; the words say %d bytes, %d; not %d", what, len(s), e, len(want), wantE, code)
	}
	if !slices.Equal(list, was) {
		t.Errorf("%s: Make changed the list", what)
	}
	return s
}

// reads: Read of bytes answers what the words say, this error or none.
func reads(t *testing.T, what, s string, code api.Errno) []api.Item {
	t.Helper()
	list, e := pack.Read(s)
	want, wantE := readByWords(s)
	if e != code || wantE != code || !slices.Equal(list, want) {
		t.Errorf("%s: Read answers %d objects, %d; the words say %d objects, %d; not %d", what, len(list), e, len(want), wantE, code)
	}
	return list
}

// finds: Find answers what the words say, and this.
func finds(t *testing.T, what, s, want, data string, ok bool, code api.Errno) {
	t.Helper()
	found(t, what, s, want)
	d, o, e := pack.Find(s, want)
	if d != data || o != ok || e != code {
		t.Errorf("%s: Find answers %d bytes, %v, %d, not %d, %v, %d", what, len(d), o, e, len(data), ok, code)
	}
}

// found: Find answers what the words say.
func found(t *testing.T, what, s, want string) {
	t.Helper()
	d, o, e := pack.Find(s, want)
	wantD, wantO, wantE := findByWords(s, want)
	if d != wantD || o != wantO || e != wantE {
		t.Errorf("%s: Find answers %d bytes, %v, %d; the words say %d bytes, %v, %d", what, len(d), o, e, len(wantD), wantO, wantE)
	}
}

// round: a list's pack is read as the list, told by its index, and made anew of what was read.
func round(t *testing.T, what string, list []string) string {
	t.Helper()
	s := makes(t, what, list, 0)
	items := reads(t, what, s, 0)
	var told []string
	for _, x := range items {
		finds(t, what, s, x.Id, x.Data, true, 0)
		told = append(told, x.Data)
	}
	if anew, e := pack.Make(told); anew != s || e != 0 {
		t.Errorf("%s: made anew it is another one: %d", what, e)
	}
	slices.Reverse(told)
	if anew, e := pack.Make(told); anew != s || e != 0 {
		t.Errorf("%s: made anew of the falling list it is another one: %d", what, e)
	}
	if len(told) != len(list) {
		t.Errorf("%s: %d objects told of %d", what, len(told), len(list))
	}
	for _, x := range list {
		if !slices.Contains(told, x) {
			t.Errorf("%s: an object of %d bytes isn't told", what, len(x))
		}
	}
	return s
}

// sized: a byte so many times.
func sized(c byte, n int) string { return strings.Repeat(string([]byte{c}), n) }

// texts: so many unlike texts.
func texts(n int) []string {
	var list []string
	for k := range n {
		list = append(list, fmt.Sprint("text ", k))
	}
	return list
}

// beginning: so many texts whose ids begin with this byte.
func beginning(c byte, n int) []string {
	var list []string
	for k := 0; len(list) < n; k++ {
		if s := fmt.Sprint("t", k); id(s)[0] == c {
			list = append(list, s)
		}
	}
	return list
}

// lists: ordinary lists, and the edges.
func lists() [][]string {
	return [][]string{
		{""}, {"a"}, {"\x01hi"}, {"", "a"}, {"a", ""}, {"abc", "defg"}, {"defg", "abc"}, {"\x00", "\xff", "\x00\x00"},
		{sized('x', 131071)}, {sized('x', 131072)}, {"", "a", "bb", sized('c', 131072)},
		texts(2), texts(3), texts(17), texts(255), texts(256), texts(257),
		beginning(0, 1), beginning(0xff, 1), beginning(0, 4), beginning(0xff, 4), beginning(0x7f, 3), beginning(0x80, 3),
		slices.Concat(beginning(0, 2), beginning(0xff, 2)),
		slices.Concat(beginning(1, 2), beginning(0, 2), beginning(0xff, 1), beginning(0x41, 5), []string{""}),
	}
}

// The chapter's example.
func TestExample(t *testing.T) {
	s := round(t, "the object 01 68 69", []string{"\x01hi"})
	if len(s) != 1115 || s[:12] != "relic001\x01\x00\x00\x00" || s[1080:1083] != "\x01hi" {
		t.Errorf("%d bytes: %x", len(s), s)
	}
	if want := id("\x01hi") + "\x00\x00\x00\x00\x03\x00\x00\x00" + num(check("\x01hi")); s[1036:1080] != want {
		t.Errorf("index %x", s[1036:1080])
	}
}

// P7.1, P7.2, P7.4: ordinary lists, and lists at the edges.
func TestRound(t *testing.T) {
	for k, list := range lists() {
		s := round(t, fmt.Sprint("list ", k), list)
		for _, x := range []string{"nothing", "t", "text", "\x01"} {
			finds(t, fmt.Sprint("list ", k), s, id(x), "", false, 0)
		}
	}
}

// P7.1: no list, an empty one, and lists at the most objects.
func TestMakeOfFewAndMany(t *testing.T) {
	makes(t, "no list", nil, api.ErrArg)
	makes(t, "an empty list", []string{}, api.ErrArg)
	makes(t, "an empty list with room", make([]string, 0, 9), api.ErrArg)
	many := texts(1026)
	for _, n := range []int{1, 2, 1023} {
		makes(t, fmt.Sprint(n, " texts"), many[:n], 0)
	}
	round(t, "1024 texts", many[:1024])
	makes(t, "1025 texts", many[:1025], api.ErrMany)
	makes(t, "1026 texts", many[:1026], api.ErrMany)
	makes(t, "2049 texts", texts(2049), api.ErrMany)
}

// P7.1: objects have at most 131072 bytes, whatever these are.
func TestMakeOfLongTexts(t *testing.T) {
	for _, n := range []int{0, 1, 2, 131071, 131072} {
		for _, c := range []byte{0, 1, 'x', 0xff} {
			makes(t, fmt.Sprint(n, " bytes ", c), []string{sized(c, n)}, 0)
		}
	}
	for _, n := range []int{131073, 131074, 262144, 4194304, 4194305} {
		s := sized('x', n)
		makes(t, fmt.Sprint(n, " bytes"), []string{s}, api.ErrLong)
		makes(t, fmt.Sprint(n, " bytes first"), []string{s, "a", "b"}, api.ErrLong)
		makes(t, fmt.Sprint(n, " bytes between"), []string{"a", s, "b"}, api.ErrLong)
		makes(t, fmt.Sprint(n, " bytes last"), []string{"a", "b", s}, api.ErrLong)
	}
}

// P7.1: one text twice, wherever the two stand.
func TestMakeOfOneTextTwice(t *testing.T) {
	many := texts(1024)
	for _, n := range []int{2, 3, 4, 40, 1024} {
		for _, at := range [][2]int{{0, 1}, {0, n - 1}, {n - 2, n - 1}, {0, n / 2}, {n / 2, n - 1}} {
			if at[0] == at[1] {
				continue
			}
			list := slices.Clone(many[:n])
			list[at[1]] = list[at[0]]
			makes(t, fmt.Sprint(n, " texts, one at ", at), list, api.ErrTwice)
		}
	}
	makes(t, "the empty text twice", []string{"", ""}, api.ErrTwice)
	makes(t, "three times", []string{"a", "a", "a"}, api.ErrTwice)
	makes(t, "the longest twice", []string{sized('x', 131072), "a", sized('x', 131072)}, api.ErrTwice)
	makes(t, "alike but one byte", []string{sized('x', 131072), sized('x', 131071), sized('x', 131071) + "y"}, 0)
	for c := range 256 {
		two := beginning(byte(c), 2)
		makes(t, fmt.Sprint("first byte ", c), two, 0)
		makes(t, fmt.Sprint("first byte, twice ", c), append(two, two[0]), api.ErrTwice)
		makes(t, fmt.Sprint("first byte, last twice ", c), append(two, two[1]), api.ErrTwice)
	}
}

// long: 32 unlike texts whose pack has so many bytes more than 4194304.
func long(more int) []string {
	var list []string
	for k := range 31 {
		list = append(list, sized(byte(k), 131072))
	}
	return append(list, sized('z', 4194304-1068-32*44-31*131072+more))
}

// P7.1, P7.2, P7.4: packs of 4194304 bytes, and of more.
func TestTheLongestPack(t *testing.T) {
	s := round(t, "the longest", long(0))
	if len(s) != 4194304 {
		t.Errorf("%d bytes", len(s))
	}
	makes(t, "one byte less", long(-1), 0)
	for _, more := range []int{1, 2, 44, 1000} {
		makes(t, fmt.Sprint(more, " bytes more"), long(more), api.ErrLong)
	}
	makes(t, "one object more, the empty one", append(long(0), ""), api.ErrLong)
	makes(t, "one object more, which has just room", append(long(-44), ""), 0)
	makes(t, "one object more, which has no room", append(long(-43), ""), api.ErrLong)
	for _, n := range []int{1023, 1024} {
		const each = (4194304 - 1068 - 1024*44) / 1024
		var list []string
		for k := range n {
			list = append(list, num(k)+sized('m', each-4))
		}
		makes(t, fmt.Sprint(n, " of one length"), list, 0)
		list[0] += sized('m', 4194304-1068-n*(44+each))
		makes(t, fmt.Sprint(n, " with one longer"), list, 0)
		list[n-1] += "m"
		makes(t, fmt.Sprint(n, " with one more byte"), list, api.ErrLong)
	}
}

// P7.1: of two errors, the one that stands first.
func TestMakeOfTwoErrors(t *testing.T) {
	over, top := sized('x', 131073), sized('x', 131072)
	makes(t, "many, and one is long", append(texts(1024), over), api.ErrMany)
	makes(t, "many, and one is twice", append(texts(1024), "text 0"), api.ErrMany)
	makes(t, "many, and all alike", make([]string, 1025), api.ErrMany)
	makes(t, "many, and long together", append(long(1), texts(1000)...), api.ErrMany)
	makes(t, "many, long, twice, long together", append(append(long(1), over, over), texts(1000)...), api.ErrMany)
	makes(t, "twice ahead of one that is long", []string{"a", "a", over}, api.ErrLong)
	makes(t, "twice behind one that is long", []string{over, "a", "a"}, api.ErrLong)
	makes(t, "one that is long, twice", []string{over, over}, api.ErrLong)
	makes(t, "one that is long, and long together", append(long(1), over), api.ErrLong)
	makes(t, "twice, and long together", append(long(1), "\x00", "\x00"), api.ErrTwice)
	makes(t, "twice by what makes it long", append(long(0), long(0)[31]), api.ErrTwice)
	makes(t, "all alike, and long together", slices.Repeat([]string{top}, 33), api.ErrTwice)
	makes(t, "all alike but the last, and long together", append(slices.Repeat([]string{top}, 33), "a"), api.ErrTwice)
}

// P7.1: mixed lists, in any order, with repeats and long ones now and then.
func TestMakeOfMixedLists(t *testing.T) {
	r := rand.New(rand.NewSource(7))
	for k := range 300 {
		var list []string
		for range r.Intn(40) {
			list = append(list, sized(byte(r.Intn(256)), r.Intn(300)))
		}
		if r.Intn(20) == 0 {
			list = append(list, sized('x', 131071+r.Intn(4)))
		}
		_, code := makeByWords(list)
		if s := makes(t, fmt.Sprint("mixed ", k), list, code); code == 0 {
			reads(t, fmt.Sprint("mixed ", k), s, 0)
			round(t, fmt.Sprint("mixed ", k), list)
		}
	}
}

// again: bytes with other ones at a place, and the digest made anew.
func again(s string, at int, with string) string {
	s = s[:at] + with + s[at+len(with):len(s)-32]
	return s + id(s)
}

// ids: what to look for in bytes of a pack that may be wrong: the ids that stand in them, and others.
func ids(s string) []string {
	list := []string{sized(0, 32), sized(0xff, 32), id("nothing"), "", sized(1, 31)}
	for at := 1036; at+32 <= len(s) && len(list) < 20; at += 44 {
		list = append(list, s[at:at+32])
	}
	return list
}

// P7.2, P7.3: fewer than 1112 bytes are short, whatever they are; 1112 are not.
func TestShort(t *testing.T) {
	one := round(t, "the empty object", []string{""})
	if len(one) != 1112 {
		t.Fatalf("%d bytes", len(one))
	}
	hi := makes(t, "hi", []string{"\x01hi"}, 0)
	for n := range 1112 {
		for _, s := range []string{one[:n], one[1112-n:], hi[:n], sized(0, n), sized(0xff, n)} {
			if n > 3 && n < 1100 && n%13 != 0 {
				continue
			}
			reads(t, fmt.Sprint(n, " bytes"), s, api.ErrShort)
			finds(t, fmt.Sprint(n, " bytes"), s, id(""), "", false, api.ErrShort)
			finds(t, fmt.Sprint(n, " bytes, no id"), s, "x", "", false, api.ErrArg)
			if n >= 32 {
				reads(t, fmt.Sprint(n, " bytes with their digest"), s[32:]+id(s[32:]), api.ErrShort)
			}
		}
	}
	for _, n := range []int{1112, 1113, 2000} {
		for _, c := range []byte{0, 'r', 0xff} {
			s := sized(c, n)
			reads(t, fmt.Sprint(n, " bytes ", c), s, api.ErrSum)
			reads(t, fmt.Sprint(n, " bytes, with their digest ", c), s[32:]+id(s[32:]), api.ErrForm)
			finds(t, fmt.Sprint(n, " bytes ", c), s, id(""), "", false, api.ErrForm)
		}
	}
	finds(t, "1112 bytes", one, id(""), "", true, 0)
	finds(t, "1112 bytes", one, id("a"), "", false, 0)
}

// P7.2, P7.3: more than 4194304 bytes are long for Read, whatever they are, and Find doesn't ask.
func TestLong(t *testing.T) {
	for _, more := range []int{1, 2, 50} {
		list := long(more)
		s := formOf(list).bytes()
		what := fmt.Sprint(more, " bytes more than the longest")
		if len(s) != 4194304+more {
			t.Fatal(len(s))
		}
		reads(t, what, s, api.ErrLong)
		reads(t, what+", wrong digest", s[:len(s)-1]+"x", api.ErrLong)
		reads(t, what+", wrong beginning", again(s, 0, "x"), api.ErrLong)
		finds(t, what, s, id(list[0]), list[0], true, 0)
		finds(t, what, s, id(list[31]), list[31], true, 0)
		finds(t, what, s, id("nothing"), "", false, 0)
	}
	for _, c := range []byte{0, 'r', 0xff} {
		reads(t, "4194304 bytes", sized(c, 4194304), api.ErrSum)
		reads(t, "4194305 bytes", sized(c, 4194305), api.ErrLong)
		finds(t, "4194305 bytes", sized(c, 4194305), id(""), "", false, api.ErrForm)
	}
	s := makes(t, "the longest", long(0), 0)
	reads(t, "the longest and a byte", s+"x", api.ErrLong)
	reads(t, "the longest and its digest", s+id(s), api.ErrLong)
}

// P7.4, P7.2: each byte changed, with the digest as it was: refused, and Find tells what the words say.
func TestChangedBytes(t *testing.T) {
	for k, list := range [][]string{{""}, {"\x01hi"}, {"abc", "defg"}, {"", "a", "bb"}, beginning(0, 2), beginning(0xff, 2)} {
		s := makes(t, fmt.Sprint("list ", k), list, 0)
		for at := range len(s) {
			for _, c := range []byte{s[at] ^ 1, s[at] ^ 0x80, ^s[at]} {
				b := []byte(s)
				b[at] = c
				what := fmt.Sprintf("list %d, byte %d is %d", k, at, c)
				reads(t, what, string(b), api.ErrSum)
				for _, x := range ids(s) {
					found(t, what, string(b), x)
				}
			}
		}
	}
}

// P7.2, P7.4: each byte changed, with the digest made anew: what is no pack is refused by its form or its sums.
func TestChangedBytesWithDigest(t *testing.T) {
	for k, list := range [][]string{{""}, {"\x01hi"}, {"abc", "defg"}, {"", "a", "bb"}, beginning(0, 2), beginning(0xff, 2)} {
		s := makes(t, fmt.Sprint("list ", k), list, 0)
		n := len(list)
		for at := range len(s) - 32 {
			for _, c := range []byte{s[at] ^ 1, s[at] ^ 0x80, ^s[at], 0, 1, 0xff} {
				if c == s[at] {
					continue
				}
				changed := again(s, at, string([]byte{c}))
				what := fmt.Sprintf("list %d, byte %d is %d, digest anew", k, at, c)
				code := api.ErrForm
				if at >= 1036+44*n || (at >= 1036 && (at-1036)%44 >= 40) {
					code = api.ErrSum
				}
				if at >= 1036 && (at-1036)%44 > 0 && (at-1036)%44 < 32 && at < 1036+44*n {
					// An id that is changed behind its first byte, and still stands above the one ahead of it, is in form.
					_, code = readByWords(changed)
					if code == 0 {
						t.Errorf("%s: the words take it", what)
					}
				}
				reads(t, what, changed, code)
				for _, x := range append(ids(s), ids(changed)...) {
					found(t, what, changed, x)
				}
			}
		}
		reads(t, "the digest changed", s[:len(s)-1]+string([]byte{s[len(s)-1] ^ 1}), api.ErrSum)
	}
}

// P7.2, P7.4: cut off, or with bytes behind, ahead or between.
func TestBytesMissingOrLeft(t *testing.T) {
	for k, list := range [][]string{{""}, {"\x01hi"}, {"abc", "defg"}, texts(30)} {
		s := makes(t, fmt.Sprint("list ", k), list, 0)
		f := formOf(list)
		for n := 1112; n < len(s); n++ {
			reads(t, fmt.Sprint("list ", k, " cut at ", n), s[:n], api.ErrSum)
			reads(t, fmt.Sprint("list ", k, " without its first bytes, ", n), s[len(s)-n:], api.ErrSum)
			reads(t, fmt.Sprint("list ", k, " cut at, with the digest ", n), s[:n-32]+id(s[:n-32]), api.ErrForm)
			for _, x := range ids(s) {
				found(t, fmt.Sprint("list ", k, " cut at ", n), s[:n], x)
			}
		}
		for _, more := range []string{"\x00", "x", s, sized(0, 32), sized(0, 44)} {
			what := fmt.Sprintf("list %d, %d bytes more ", k, len(more))
			reads(t, what+"behind", s+more, api.ErrSum)
			reads(t, what+"ahead", more+s, api.ErrSum)
			reads(t, what+"behind, with the digest", s+more+id(s+more), api.ErrForm)
			reads(t, what+"ahead, with the digest", more+s[:len(s)-32]+id(more+s[:len(s)-32]), api.ErrForm)
			g := f
			g.data = f.data + more
			reads(t, what+"behind the data", g.bytes(), api.ErrForm)
			for _, x := range f.rows {
				finds(t, what+"behind the data", g.bytes(), x.id, f.data[x.at:x.at+x.size], true, 0)
			}
			g.data = more + f.data
			reads(t, what+"ahead of the data", g.bytes(), api.ErrForm)
			for _, x := range f.rows {
				found(t, what+"ahead of the data", g.bytes(), x.id)
			}
		}
		if len(f.data) > 0 {
			last := f.rows[len(f.rows)-1]
			f.data = f.data[:len(f.data)-1]
			reads(t, "one byte of the data is missing", f.bytes(), api.ErrForm)
			finds(t, "one byte of the data is missing", f.bytes(), last.id, "", false, api.ErrForm)
			f.data = ""
			reads(t, "no data", f.bytes(), api.ErrForm)
			finds(t, "no data", f.bytes(), last.id, "", false, api.ErrForm)
		}
	}
}

// P7.2, P7.3: the eight bytes.
func TestTitle(t *testing.T) {
	f := formOf([]string{"abc", "defg"})
	for _, title := range []string{"relic002", "relic000", "Relic001", "relic00\x01", "xelic001", sized(0, 8)} {
		f.title = title
		reads(t, title, f.bytes(), api.ErrForm)
		finds(t, title, f.bytes(), id("abc"), "", false, api.ErrForm)
		finds(t, title, f.bytes(), id("nothing"), "", false, api.ErrForm)
		finds(t, title+", no id", f.bytes(), "abc", "", false, api.ErrArg)
	}
}

// P7.2, P7.3: n of 0, of one more and less than is there, and far off.
func TestNumber(t *testing.T) {
	for k, list := range [][]string{{""}, {"abc"}, {"abc", "defg"}, {"a", sized('b', 100)}, texts(40), texts(1024), append(texts(1023), sized('x', 5000))} {
		f := formOf(list)
		there := f.n
		for _, n := range []int{0, 1, 2, there - 1, there, there + 1, 1023, 1024, 1025, 1026, 65536 + there, 1<<24 + there, 1<<31 - 1, 1 << 31, 1<<31 + there, 1<<32 - 1} {
			f.n = n
			s := f.bytes()
			what := fmt.Sprint("list ", k, ", n ", n)
			if n == there {
				reads(t, what, s, 0)
				continue
			}
			reads(t, what, s, api.ErrForm)
			for _, x := range ids(s) {
				found(t, what, s, x)
			}
			if n == 0 || n > 1024 {
				finds(t, what, s, f.rows[0].id, "", false, api.ErrForm)
			}
		}
	}
}

// P7.2: a pack of 1025 objects is none, though all else is right; of 1024, whose numbers are right, it is.
func TestReadOfManyObjects(t *testing.T) {
	f := formOf(texts(1024))
	reads(t, "1024 objects", f.bytes(), 0)
	finds(t, "1024 objects", f.bytes(), f.rows[1023].id, f.data[f.rows[1023].at:], true, 0)
	f = formOf(texts(1025))
	reads(t, "1025 objects", f.bytes(), api.ErrForm)
	finds(t, "1025 objects", f.bytes(), f.rows[0].id, "", false, api.ErrForm)
	f = form{title: "relic001", fan: make([]int, 256)}
	reads(t, "no objects", f.bytes(), api.ErrShort)
	f.data = sized('x', 44)
	reads(t, "no objects, with data", f.bytes(), api.ErrForm)
	finds(t, "no objects, with data", f.bytes(), sized('x', 32), "", false, api.ErrForm)
}

// P7.2, P7.3: an index that ends just 32 bytes ahead of the end, and less.
func TestIndexAtTheEnd(t *testing.T) {
	for _, n := range []int{1, 2, 3, 1024} {
		var list []api.Item
		for k := range n {
			list = append(list, api.Item{Id: sized(0, 28) + num(k)})
		}
		s := under(list...).bytes()
		want := list[n-1].Id
		finds(t, fmt.Sprint(n, ", just at the end"), s, want, "", true, 0)
		for less := 1; less <= 44 && len(s)-less >= 1112; less++ {
			what := fmt.Sprint(n, ", bytes less: ", less)
			short := s[:len(s)-32-less]
			finds(t, what, s[:len(s)-less], want, "", false, api.ErrForm)
			finds(t, what+", with the digest", short+id(short), want, "", false, api.ErrForm)
			reads(t, what+", with the digest", short+id(short), api.ErrForm)
		}
	}
}

// P7.2, P7.3: a fan whose numbers fall, pass n, or are one off.
func TestFan(t *testing.T) {
	list := slices.Concat(beginning(0, 2), beginning(0x41, 3), beginning(0xff, 2))
	good := formOf(list)
	for first := range 256 {
		for _, n := range []int{0, 1, 2, 4, 5, 6, 7, 8, 9, 1024, 65536, 1 << 31, 1<<31 + 2, 1<<32 - 1} {
			f := good
			f.fan = slices.Clone(good.fan)
			f.fan[first] = n
			s := f.bytes()
			what := fmt.Sprintf("fan %d is %d", first, n)
			if n == good.fan[first] {
				reads(t, what, s, 0)
				continue
			}
			reads(t, what, s, api.ErrForm)
			for _, x := range good.rows {
				found(t, what, s, x.id)
			}
			for _, c := range []byte{byte(first), byte(first + 1), 0, 0x41, 0xff} {
				found(t, what, s, sized(c, 32))
			}
		}
	}
}

// P7.3: what Find asks of the fan, one by one.
func TestFindByTheFan(t *testing.T) {
	low, mid, high := sized(0, 32), sized(0x41, 32), sized(0xff, 32)
	good := under(api.Item{Id: low, Data: "low"}, api.Item{Id: mid, Data: "mid"}, api.Item{Id: high, Data: "high"})
	s := good.bytes()
	finds(t, "low", s, low, "low", true, 0)
	finds(t, "mid", s, mid, "mid", true, 0)
	finds(t, "high", s, high, "high", true, 0)
	fan := func(set map[int]int) string {
		f := good
		f.fan = slices.Clone(good.fan)
		for at, n := range set {
			f.fan[at] = n
		}
		return f.bytes()
	}
	finds(t, "hi is 0 at 00", fan(map[int]int{0: 0}), low, "", false, 0)
	finds(t, "hi is n at 00", fan(map[int]int{0: 3}), low, "low", true, 0)
	finds(t, "hi is n + 1 at 00", fan(map[int]int{0: 4}), low, "", false, api.ErrForm)
	finds(t, "hi is great at 00", fan(map[int]int{0: 1<<32 - 1}), low, "", false, api.ErrForm)
	finds(t, "hi is below lo", fan(map[int]int{0x40: 2, 0x41: 1}), mid, "", false, api.ErrForm)
	finds(t, "hi is lo", fan(map[int]int{0x40: 2, 0x41: 2}), mid, "", false, 0)
	finds(t, "lo is hi is n", fan(map[int]int{0x40: 3, 0x41: 3}), mid, "", false, 0)
	finds(t, "lo is hi is n + 1", fan(map[int]int{0x40: 4, 0x41: 4}), mid, "", false, api.ErrForm)
	finds(t, "lo is above hi is n", fan(map[int]int{0x40: 4, 0x41: 3}), mid, "", false, api.ErrForm)
	finds(t, "hi is n + 1, behind the id", fan(map[int]int{0x41: 4}), mid, "", false, api.ErrForm)
	finds(t, "lo is behind the id", fan(map[int]int{0x40: 2, 0x41: 3}), mid, "", false, 0)
	finds(t, "lo is ahead of the id", fan(map[int]int{0x40: 0}), mid, "mid", true, 0)
	finds(t, "hi is behind the next", fan(map[int]int{0x41: 3}), mid, "mid", true, 0)
	finds(t, "the last of ff is great", fan(map[int]int{0xff: 1 << 31}), high, "", false, api.ErrForm)
	finds(t, "the last of ff falls", fan(map[int]int{0xff: 1}), high, "", false, api.ErrForm)
	finds(t, "others of the fan play no part", fan(map[int]int{0x3f: 99, 0x42: 0, 0: 77, 0xff: 0}), mid, "mid", true, 0)
	finds(t, "no id has this first byte", s, sized(0x40, 32), "", false, 0)
	finds(t, "another id with this first byte", s, sized(0x41, 31)+"x", "", false, 0)
}

// P7.2: ids that fall, or stand twice.
func TestReadOfIdsThatDontRise(t *testing.T) {
	good := formOf(append(beginning(0x41, 3), beginning(0x42, 3)...))
	reads(t, "rising", good.bytes(), 0)
	for a := range good.rows {
		for b := range a {
			f := good
			f.rows = slices.Clone(good.rows)
			f.rows[a].id, f.rows[b].id = good.rows[b].id, good.rows[a].id
			reads(t, fmt.Sprint("ids change places: ", a, b), f.bytes(), api.ErrForm)
			f.rows[a].id = f.rows[b].id
			f.fan = count(f.rows)
			reads(t, fmt.Sprint("ids twice: ", a, b), f.bytes(), api.ErrForm)
		}
	}
	// Falling with all their data, so that nothing but the order is wrong.
	list := append(beginning(0x41, 3), beginning(0x42, 1)...)
	for _, order := range [][]int{{1, 0, 2, 3}, {0, 2, 1, 3}, {3, 0, 1, 2}, {0, 1, 3, 2}, {3, 2, 1, 0}, {0, 1, 1, 2}, {0, 1, 2, 3, 3}, {0, 0}} {
		var rising []api.Item
		for _, s := range list {
			rising = append(rising, api.Item{Id: id(s), Data: s})
		}
		sort.Slice(rising, func(a, b int) bool { return rising[a].Id < rising[b].Id })
		var items []api.Item
		for _, k := range order {
			items = append(items, rising[k])
		}
		s := under(items...).bytes()
		reads(t, fmt.Sprint("order ", order), s, api.ErrForm)
		for _, x := range rising {
			found(t, fmt.Sprint("order ", order), s, x.Id)
		}
	}
}

// P7.2, P7.3: places with a gap, or one over another, though the data has the bytes.
func TestPlaces(t *testing.T) {
	good := formOf([]string{"abcd", "efgh", "ijkl"})
	for k := range good.rows {
		for at := range 14 {
			f := good
			f.rows = slices.Clone(good.rows)
			f.rows[k].at = at
			what := fmt.Sprintf("object %d at %d", k, at)
			if at == good.rows[k].at {
				reads(t, what, f.bytes(), 0)
				continue
			}
			reads(t, what, f.bytes(), api.ErrForm)
			code := api.ErrSum
			if at > 8 {
				code = api.ErrForm
			}
			finds(t, what, f.bytes(), f.rows[k].id, "", false, code)
		}
		for _, at := range []int{1 << 16, 1<<31 - 1, 1 << 31, 1<<32 - 4, 1<<32 - 3, 1<<32 - 1} {
			f := good
			f.rows = slices.Clone(good.rows)
			f.rows[k].at = at
			reads(t, fmt.Sprint("place ", at), f.bytes(), api.ErrForm)
			finds(t, fmt.Sprint("place ", at), f.bytes(), f.rows[k].id, "", false, api.ErrForm)
		}
	}
	f := good
	f.rows = slices.Clone(good.rows)
	f.rows[1].at, f.rows[2].at, f.data = 5, 9, f.data[:4]+"-"+f.data[4:]
	reads(t, "a gap", f.bytes(), api.ErrForm)
	finds(t, "a gap", f.bytes(), f.rows[2].id, f.data[9:], true, 0)
	f.rows[1].at, f.rows[2].at, f.data = 8, 4, good.data[:4]+good.data[8:]+good.data[4:8]
	reads(t, "data in another order", f.bytes(), api.ErrForm)
	finds(t, "data in another order", f.bytes(), f.rows[1].id, good.data[4:8], true, 0)
}

// P7.2: one object over another: all their bytes are in the data, and theirs.
func TestReadOfOneObjectOverAnother(t *testing.T) {
	for _, list := range [][]string{{"aa", "a"}, {"aaa", "aa", "a"}, {"", "a"}, {"abc", "bc"}} {
		f := formOf(list)
		whole := ""
		for _, s := range list {
			if len(s) > len(whole) {
				whole = s
			}
		}
		for k, x := range f.rows {
			for _, s := range list {
				if id(s) == x.id {
					f.rows[k].at = strings.Index(whole, s)
				}
			}
		}
		f.data = whole
		reads(t, fmt.Sprintf("%q", list), f.bytes(), api.ErrForm)
		for _, s := range list {
			finds(t, fmt.Sprintf("%q", list), f.bytes(), id(s), s, true, 0)
		}
	}
}

// P7.2, P7.3: lengths that say more than is there, less, or more than is let.
func TestLengths(t *testing.T) {
	good := formOf([]string{"abcd", "efgh", "ijkl"})
	for k := range good.rows {
		for _, n := range []int{0, 1, 3, 5, 8, 12, 13, 131072, 131073, 1<<31 - 1, 1 << 31, 1<<32 - 4, 1<<32 - 1} {
			f := good
			f.rows = slices.Clone(good.rows)
			f.rows[k].size = n
			what := fmt.Sprintf("object %d has %d bytes", k, n)
			reads(t, what, f.bytes(), api.ErrForm)
			code := api.ErrSum
			if 4*k+n > 12 {
				code = api.ErrForm
			}
			finds(t, what, f.bytes(), f.rows[k].id, "", false, code)
		}
	}
	f := good
	f.rows = slices.Clone(good.rows)
	f.rows[0].size, f.rows[1].size, f.rows[1].at = 5, 3, 5
	reads(t, "one byte more of the first, one less of the second", f.bytes(), api.ErrSum)
	f.rows[0].size, f.rows[1].size, f.rows[1].at = 1<<32-4, 12, 1<<32-4
	reads(t, "lengths that go round", f.bytes(), api.ErrForm)
}

// P7.2, P7.3: bytes at the most that an object has, and one more, with all else right.
func TestLongObjects(t *testing.T) {
	for _, n := range []int{131071, 131072, 131073, 131074, 262144} {
		s := sized('x', n)
		f := formOf([]string{s, "a", "b"})
		what := fmt.Sprint("an object of ", n)
		if n <= 131072 {
			reads(t, what, f.bytes(), 0)
			finds(t, what, f.bytes(), id(s), s, true, 0)
		} else {
			reads(t, what, f.bytes(), api.ErrForm)
			finds(t, what, f.bytes(), id(s), "", false, api.ErrForm)
		}
		finds(t, what, f.bytes(), id("a"), "a", true, 0)
		finds(t, what, f.bytes(), id("b"), "b", true, 0)
	}
}

// P7.2: the sums of the data: a check that isn't its, an id that isn't its, of the first, a middle, and the last object.
func TestSumsOfTheData(t *testing.T) {
	good := formOf([]string{"abcd", "efgh", "ijkl"})
	for k, x := range good.rows {
		f := good
		f.rows = slices.Clone(good.rows)
		data := good.data[x.at : x.at+4]
		f.rows[k].check ^= 1 << 31
		reads(t, "another check", f.bytes(), api.ErrSum)
		finds(t, "another check", f.bytes(), x.id, "", false, api.ErrSum)
		f.rows[k].check = 0
		reads(t, "the check 0", f.bytes(), api.ErrSum)
		f.rows[k].check = check("zzzz")
		f.data = good.data[:x.at] + "zzzz" + good.data[x.at+4:]
		reads(t, "other bytes with their check", f.bytes(), api.ErrSum)
		finds(t, "other bytes with their check", f.bytes(), x.id, "zzzz", true, 0)
		f.rows[k].check = x.check
		reads(t, "other bytes with the check that was", f.bytes(), api.ErrSum)
		finds(t, "other bytes with the check that was", f.bytes(), x.id, "", false, api.ErrSum)
		f = good
		f.rows = slices.Clone(good.rows)
		f.rows[k].id = x.id[:31] + string([]byte{x.id[31] ^ 1})
		reads(t, "another id", f.bytes(), api.ErrSum)
		finds(t, "another id", f.bytes(), f.rows[k].id, data, true, 0)
		finds(t, "the id that was", f.bytes(), x.id, "", false, 0)
	}
	f := formOf([]string{""})
	f.rows[0].check = 1
	reads(t, "the empty object with another check", f.bytes(), api.ErrSum)
	finds(t, "the empty object with another check", f.bytes(), id(""), "", false, api.ErrSum)
}

// P7.2: of two errors, the one that stands first.
func TestReadOfTwoErrors(t *testing.T) {
	good := formOf([]string{"abcd", "efgh"})
	bad := func(s string) string { return s[:len(s)-1] + string([]byte{s[len(s)-1] ^ 1}) }
	reads(t, "short, wrong digest", bad(formOf([]string{""}).bytes())[1:], api.ErrShort)
	reads(t, "wrong digest and eight bytes", bad(again(good.bytes(), 0, "x")), api.ErrSum)
	reads(t, "wrong digest and n", bad(again(good.bytes(), 8, num(0))), api.ErrSum)
	reads(t, "wrong digest and check", bad(again(good.bytes(), 1036+40, num(0))), api.ErrSum)
	for k := range 2 {
		for l := range 2 {
			f := good
			f.rows = slices.Clone(good.rows)
			f.rows[k].check ^= 1
			f.rows[l].at += 1
			reads(t, "a wrong check and place", f.bytes(), api.ErrForm)
			f.rows[l].at -= 1
			f.rows[l].size += 1
			reads(t, "a wrong check and length", f.bytes(), api.ErrForm)
			f.rows[l].size -= 1
			f.fan = slices.Clone(good.fan)
			f.fan[255] = 1
			reads(t, "a wrong check and fan", f.bytes(), api.ErrForm)
			f.fan = good.fan
			f.data += "x"
			reads(t, "a wrong check and a byte left", f.bytes(), api.ErrForm)
			f.data = "abc"
			reads(t, "a wrong check and bytes missing", f.bytes(), api.ErrForm)
		}
	}
}

// P7.3: what is no id, ahead of all other errors.
func TestFindOfNoIds(t *testing.T) {
	s := makes(t, "a pack", []string{"abc", ""}, 0)
	whole := id("abc")
	for _, n := range []int{0, 1, 16, 31} {
		finds(t, fmt.Sprint(n, " bytes"), s, whole[:n], "", false, api.ErrArg)
	}
	finds(t, "32 bytes", s, whole, "abc", true, 0)
	for _, more := range []string{"\x00", "x", whole, sized(0, 1<<16)} {
		finds(t, "more bytes", s, whole+more, "", false, api.ErrArg)
		finds(t, "more bytes, of the index", s, s[1036:1036+32]+more, "", false, api.ErrArg)
	}
	for _, bad := range []string{"", "x", sized(0, 2000), s[1:], s[:1111]} {
		for _, n := range []int{0, 31, 33} {
			finds(t, "no id, no pack", bad, sized(0, n), "", false, api.ErrArg)
		}
	}
}

// P7.3: each object is told, and no other, whatever the first bytes of ids are.
func TestFind(t *testing.T) {
	for k, list := range lists() {
		s := formOf(list).bytes()
		for _, x := range list {
			finds(t, fmt.Sprint("list ", k), s, id(x), x, true, 0)
			for _, at := range []int{0, 1, 31} {
				b := []byte(id(x))
				b[at] ^= 1
				finds(t, fmt.Sprint("list ", k, ", an id changed"), s, string(b), "", false, 0)
			}
		}
		for c := range 256 {
			finds(t, fmt.Sprint("list ", k, ", first byte ", c), s, sized(byte(c), 32), "", false, 0)
		}
	}
}

// P7.3: ids at the ends, many with one first byte, and one below and above them all.
func TestFindOfIdsAtTheEnds(t *testing.T) {
	var list []api.Item
	for _, first := range []byte{0, 1, 0x7f, 0x80, 0xfe, 0xff} {
		for _, last := range []byte{0, 1, 0x7f, 0x80, 0xff} {
			list = append(list, api.Item{Id: sized(first, 31) + string([]byte{last}), Data: fmt.Sprint(first, last)})
		}
	}
	s := under(list...).bytes()
	for _, x := range list {
		finds(t, fmt.Sprintf("%x", x.Id), s, x.Id, x.Data, true, 0)
	}
	for c := range 256 {
		finds(t, "another last byte", s, sized(byte(c), 31)+"\x55", "", false, 0)
		finds(t, "another second byte", s, string([]byte{byte(c)})+sized(0x55, 31), "", false, 0)
	}
	finds(t, "a middle one alone", under(list[12]).bytes(), list[12].Id, list[12].Data, true, 0)
	finds(t, "below a middle one", under(list[12]).bytes(), list[0].Id, "", false, 0)
	finds(t, "above a middle one", under(list[12]).bytes(), list[29].Id, "", false, 0)
}

// P7.3: of one id that stands twice, the first one is told, with its errors; ids in any order are found.
func TestFindOfOneIdTwice(t *testing.T) {
	a, b := sized(0x41, 32), sized(0x41, 31)+"z"
	item := func(id, data string) api.Item { return api.Item{Id: id, Data: data} }
	finds(t, "next to each other", under(item(a, "one"), item(a, "two")).bytes(), a, "one", true, 0)
	f := under(item(a, "one"), item(b, "two"), item(a, "three"), item(b, "four"), item(a, "five"))
	finds(t, "far apart", f.bytes(), a, "one", true, 0)
	finds(t, "far apart", f.bytes(), b, "two", true, 0)
	f.rows[0].check ^= 1
	finds(t, "the first with another check", f.bytes(), a, "", false, api.ErrSum)
	f.rows[0].size = 1 << 20
	finds(t, "the first too long", f.bytes(), a, "", false, api.ErrForm)
	f.fan = slices.Clone(f.fan)
	f.fan[0x40] = 1
	finds(t, "the first is ahead of lo", f.bytes(), a, "three", true, 0)
	f.fan[0x40] = 3
	finds(t, "the second is ahead of lo", f.bytes(), a, "five", true, 0)
	f.fan[0x41] = 4
	finds(t, "all are ahead of lo, or not ahead of hi", f.bytes(), a, "", false, 0)
	falling := under(item(sized(0x41, 31)+"c", "c"), item(sized(0x41, 31)+"b", "b"), item(sized(0x41, 31)+"a", "a"))
	for _, c := range []string{"a", "b", "c"} {
		finds(t, "falling ids", falling.bytes(), sized(0x41, 31)+c, c, true, 0)
	}
}

// P7.3: of two errors the one that stands first; and what Find doesn't ask for.
func TestFindOfTwoErrors(t *testing.T) {
	good := formOf([]string{"abcd", "efgh"})
	want := good.rows[0].id
	change := func(set func(f *form)) string {
		f := good
		f.rows, f.fan = slices.Clone(good.rows), slices.Clone(good.fan)
		set(&f)
		return f.bytes()
	}
	finds(t, "a wrong length and check", change(func(f *form) { f.rows[0].size, f.rows[0].check = 9, 0 }), want, "", false, api.ErrForm)
	finds(t, "too long, and a wrong place and check", change(func(f *form) { f.rows[0].size, f.rows[0].at, f.rows[0].check = 131073, 1<<32-1, 0 }), want, "", false, api.ErrForm)
	finds(t, "a wrong fan and check", change(func(f *form) { f.fan[want[0]], f.rows[0].check = 3, 0 }), want, "", false, api.ErrForm)
	finds(t, "a wrong n, an id that isn't there", change(func(f *form) { f.n = 0 }), id("nothing"), "", false, api.ErrForm)
	finds(t, "a wrong length of the other", change(func(f *form) { f.rows[1].size, f.rows[1].check = 1<<32-1, 0 }), want, good.data[:4], true, 0)
	finds(t, "bytes that aren't the id's", change(func(f *form) { f.rows[0].at, f.rows[0].check = 4, f.rows[1].check }), want, good.data[4:], true, 0)
	s := good.bytes()
	finds(t, "a wrong digest", s[:len(s)-32]+sized(0, 32), want, good.data[:4], true, 0)
	finds(t, "short, wrong eight bytes", sized(0, 1111), want, "", false, api.ErrShort)
}

// P7.3: the empty object lies in the data up to its very end, and no further.
func TestFindOfTheEmptyObject(t *testing.T) {
	f := formOf([]string{"", "abcd"})
	k := slices.IndexFunc(f.rows, func(x row) bool { return x.size == 0 })
	for at := range 5 {
		f.rows[k].at = at
		finds(t, fmt.Sprint("at ", at), f.bytes(), id(""), "", true, 0)
	}
	for _, at := range []int{5, 36, 37, 1 << 31, 1<<32 - 1} {
		f.rows[k].at = at
		finds(t, fmt.Sprint("at ", at), f.bytes(), id(""), "", false, api.ErrForm)
	}
}

// P7.3: an object that reaches to the end of the data, into the digest, and out of the file.
func TestFindAtTheEndOfTheData(t *testing.T) {
	f := formOf([]string{"abcd"})
	for n := range 60 {
		for at := range 60 {
			f.rows[0].at, f.rows[0].size = at, n
			all := f.data + sized('d', 200)
			f.rows[0].check = check(all[at:][:n])
			data, ok, code := "", false, api.ErrForm
			if at+n <= 4 {
				data, ok, code = f.data[at:][:n], true, 0
			}
			finds(t, fmt.Sprintf("%d bytes at %d", n, at), f.bytes(), f.rows[0].id, data, ok, code)
		}
	}
}

// P7.4, rule 3: what is answered is new memory, and shares none with what was handed in.
func TestNewMemory(t *testing.T) {
	list := []string{"abc", "defg", sized('x', 1000), "y"}
	s, _ := pack.Make(list)
	for _, x := range list {
		if share(s, x) {
			t.Error("a pack shares memory with a text")
		}
	}
	if again, _ := pack.Make(list); share(s, again) {
		t.Error("two packs share memory")
	}
	a, _ := pack.Read(s)
	b, _ := pack.Read(s)
	for k, x := range a {
		if share(x.Id, s) || share(x.Data, s) {
			t.Error("an object shares memory with the pack")
		}
		data, _, _ := pack.Find(s, x.Id)
		if share(data, s) || share(data, x.Data) {
			t.Error("what was found shares memory with the pack")
		}
		for l, y := range b {
			if share(x.Id, y.Id) || share(x.Data, y.Data) || (l != k && (share(x.Id, a[l].Id) || share(x.Data, a[l].Data))) {
				t.Error("two objects share memory")
			}
		}
	}
	kept := slices.Clone(b)
	clear(a[:cap(a)])
	if !slices.Equal(b, kept) {
		t.Error("two lists share memory")
	}
	reads(t, "behind a list that was cleared", s, 0)
}

// P7.4, rule 3: a pack of one text, of which it has just one, and an object that is the whole data.
func TestNewMemoryOfOne(t *testing.T) {
	for _, text := range []string{"a", sized('x', 131072)} {
		s, _ := pack.Make([]string{text})
		list, _ := pack.Read(s)
		data, _, _ := pack.Find(s, id(text))
		if share(s, text) || share(list[0].Data, s) || share(list[0].Id, s) || share(data, s) {
			t.Error("shared memory")
		}
	}
}

// Rule 3: the list is not changed, nor its spare room, with an error or without.
func TestSpareRoomStays(t *testing.T) {
	for _, n := range []int{0, 1, 5, 1024, 1025} {
		room := append(texts(n), "d", "c", "b", "a", "a", sized('x', 131073))
		was := slices.Clone(room)
		for _, list := range [][]string{room[:n], room[:n+4], room[:n+5], room} {
			pack.Make(list)
			if !slices.Equal(room, was) {
				t.Fatalf("%d of %d: the list or its spare room was changed", len(list), n)
			}
		}
	}
}

// Rule 4: a call hangs on its arguments alone; asked again behind others, it answers the same.
func TestAskedAgain(t *testing.T) {
	s := formOf([]string{"abc", "defg"}).bytes()
	for range 3 {
		makes(t, "again", []string{"abc", "defg"}, 0)
		makes(t, "twice between", []string{"abc", "abc"}, api.ErrTwice)
		reads(t, "again", s, 0)
		reads(t, "changed between", again(s, 1036+88, "x"), api.ErrSum)
		finds(t, "again", s, id("abc"), "abc", true, 0)
		finds(t, "none between", s, id("nothing"), "", false, 0)
	}
}

// P7.1, P7.4: the list's order plays no part.
func TestOrderOfTheList(t *testing.T) {
	r := rand.New(rand.NewSource(77))
	list := append(texts(50), "", sized('x', 3000))
	s := round(t, "a list", list)
	for k := range 30 {
		r.Shuffle(len(list), func(a, b int) { list[a], list[b] = list[b], list[a] })
		if got, e := pack.Make(list); got != s || e != 0 {
			t.Errorf("order %d: another pack, %d", k, e)
		}
	}
}

// spoil: a pack's parts, some of them changed.
func spoil(r *rand.Rand, f form) form {
	f.fan, f.rows = slices.Clone(f.fan), slices.Clone(f.rows)
	odd := []int{0, 1, 2, f.n, f.n + 1, len(f.data), len(f.data) + 1, 131072, 131073, 1 << 31, 1<<32 - 1, r.Intn(20)}
	n := odd[r.Intn(len(odd))]
	x := &f.rows[r.Intn(len(f.rows))]
	switch r.Intn(10) {
	case 0:
		f.n = n
	case 1:
		f.fan[r.Intn(256)] = n
	case 2:
		f.fan[x.id[0]] = n
	case 3:
		x.id = f.rows[r.Intn(len(f.rows))].id
	case 4:
		x.at = n
	case 5:
		x.size = n
	case 6:
		x.check = n
	case 7:
		f.data += sized('x', 1+r.Intn(50))
	case 8:
		f.data = f.data[:r.Intn(len(f.data)+1)]
	case 9:
		f.rows = f.rows[:1+r.Intn(len(f.rows))]
	}
	return f
}

// P1, P7.2, P7.3: mixed changes, one to three at once.
func TestMixedChanges(t *testing.T) {
	r := rand.New(rand.NewSource(777))
	for k := range 6000 {
		var list []string
		for n := range 1 + r.Intn(12) {
			list = append(list, fmt.Sprint(n)+sized(byte(k), r.Intn(9)))
		}
		good := formOf(list)
		f := good
		for range 1 + r.Intn(3) {
			f = spoil(r, f)
		}
		s := f.bytes()
		_, code := readByWords(s)
		what := fmt.Sprint("mixed ", k)
		items := reads(t, what, s, code)
		if code == 0 {
			var told []string
			for _, x := range items {
				told = append(told, x.Data)
			}
			if anew, e := pack.Make(told); anew != s || e != 0 {
				t.Errorf("%s: read, and made anew as another one", what)
			}
		}
		for _, x := range good.rows {
			found(t, what, s, x.id)
		}
		found(t, what, s, sized(byte(k), 32))
	}
}

// P1, P7.2 to P7.4: whatever bytes are read, as they are, or with their digest.
func FuzzRead(f *testing.F) {
	f.Add("", "")
	for _, list := range [][]string{{""}, {"\x01hi"}, {"abc", "defg"}, texts(5)} {
		s := formOf(list).bytes()
		f.Add(s, id(list[0]))
		f.Add(s[:len(s)-32], id(list[0]))
	}
	f.Fuzz(func(t *testing.T, s, want string) {
		for _, s := range []string{s, s + id(s)} {
			_, code := readByWords(s)
			reads(t, "fuzz", s, code)
			found(t, "fuzz", s, want)
			for _, x := range ids(s) {
				found(t, "fuzz", s, x)
			}
		}
	})
}

// P1, P7.1, P7.4: whatever texts are packed.
func FuzzMake(f *testing.F) {
	f.Add("", "", "")
	f.Add("a", "b", "ab")
	f.Add("\x01hi", "\x02\x00\x00\x00\x00", "\xff")
	f.Fuzz(func(t *testing.T, a, b, c string) {
		for _, list := range [][]string{{a}, {a, b}, {a, b, c}} {
			_, code := makeByWords(list)
			makes(t, "fuzz", list, code)
			if code == 0 {
				round(t, "fuzz", list)
			}
		}
	})
}
