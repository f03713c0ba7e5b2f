package object_test

import (
	"bytes"
	"crypto/sha256"
	"fmt"
	"math"
	"math/rand"
	"slices"
	"strings"
	"testing"

	"reliquary/api"
	"reliquary/object"
)

// The promises by the chapter's own words, part by part, to hold the answers against.

// isName: whether a text is a name of layer 5.
func isName(s string) bool {
	for k := range len(s) {
		if s[k] == '/' || s[k] == 0 {
			return false
		}
	}
	return len(s) >= 1 && len(s) <= 255 && s != "." && s != ".."
}

// rise: whether each text is above the one ahead of it, byte by byte.
func rise(list []string) bool {
	for k := range list {
		if k > 0 && bytes.Compare([]byte(list[k-1]), []byte(list[k])) >= 0 {
			return false
		}
	}
	return true
}

// isTree: whether entries are a tree's.
func isTree(list []api.Entry) bool {
	var names []string
	for _, e := range list {
		if !isName(e.Name) || (e.Kind != 1 && e.Kind != 2) || len(e.Id) != 32 {
			return false
		}
		names = append(names, e.Name)
	}
	return len(list) <= 256 && rise(names)
}

// isCommit: whether the fields of a commit are one's.
func isCommit(x api.Object) bool {
	for _, id := range x.Parents {
		if len(id) != 32 {
			return false
		}
	}
	if len(x.Tree) != 32 || len(x.Parents) > 8 || !rise(x.Parents) || len(x.Note) > 1000 {
		return false
	}
	if len(x.Parents) == 0 {
		return x.Height == 0
	}
	return x.Height >= 1 && x.Height <= 1073741824
}

// isObject: whether x is one.
func isObject(x api.Object) bool {
	switch x.Kind {
	case 1:
		return len(x.Data) <= 65536
	case 2:
		return isTree(x.Entries)
	case 3:
		return isCommit(x)
	}
	return false
}

// num: four bytes, the lowest first.
func num(n int) string {
	var b []byte
	for range 4 {
		b = append(b, byte(n%256))
		n /= 256
	}
	return string(b)
}

// text: its length and its bytes.
func text(s string) string { return num(len(s)) + s }

// layout: the bytes of an object, and what they would be of one that is none.
func layout(x api.Object) string {
	s := string([]byte{byte(x.Kind)})
	switch x.Kind {
	case 1:
		return s + x.Data
	case 2:
		s += num(len(x.Entries))
		for _, e := range x.Entries {
			s += string([]byte{byte(e.Kind)}) + text(e.Name) + e.Id
		}
	case 3:
		s += x.Tree + num(len(x.Parents)) + strings.Join(x.Parents, "") + num(x.Height) + text(x.Note)
	}
	return s
}

// bare: an object without the fields that play no part.
func bare(x api.Object) api.Object {
	switch x.Kind {
	case 1:
		return api.Object{Kind: 1, Data: x.Data}
	case 2:
		return api.Object{Kind: 2, Entries: x.Entries}
	}
	return api.Object{Kind: x.Kind, Tree: x.Tree, Parents: x.Parents, Height: x.Height, Note: x.Note}
}

// same: whether two objects have the same fields; a list that holds nothing may be nil or empty.
func same(a, b api.Object) bool {
	return a.Kind == b.Kind && a.Data == b.Data && slices.Equal(a.Entries, b.Entries) && a.Tree == b.Tree &&
		slices.Equal(a.Parents, b.Parents) && a.Height == b.Height && a.Note == b.Note
}

// linksOf: what an object names, each put where it belongs among those ahead of it.
func linksOf(x api.Object) []api.Link {
	if !isObject(x) {
		return nil
	}
	var all, list []api.Link
	switch x.Kind {
	case 2:
		for _, e := range x.Entries {
			all = append(all, api.Link{Kind: e.Kind, Id: e.Id})
		}
	case 3:
		all = append(all, api.Link{Kind: 2, Id: x.Tree})
		for _, id := range x.Parents {
			all = append(all, api.Link{Kind: 3, Id: id})
		}
	}
	for _, l := range all {
		if slices.Contains(list, l) {
			continue
		}
		at := 0
		for at < len(list) && (list[at].Id < l.Id || list[at].Id == l.Id && list[at].Kind < l.Kind) {
			at++
		}
		list = slices.Insert(list, at, l)
	}
	return list
}

// parts cuts bytes into parts; ok tells whether there were enough all along.
type parts struct {
	s  string
	ok bool
}

func (p *parts) cut(n int) string {
	if !p.ok || n > len(p.s) {
		p.ok = false
		return ""
	}
	s := p.s[:n]
	p.s = p.s[n:]
	return s
}

func (p *parts) num() int {
	n := 0
	for _, c := range slices.Backward([]byte(p.cut(4))) {
		n = n*256 + int(c)
	}
	return n
}

func (p *parts) kind() int {
	s := p.cut(1)
	if s == "" {
		return 0
	}
	return int(s[0])
}

// decodeByWords: the object whose bytes s is, if there is one.
func decodeByWords(s string) (api.Object, api.Errno) {
	p := &parts{s: s, ok: true}
	x := api.Object{Kind: p.kind()}
	switch x.Kind {
	case 1:
		x.Data = p.cut(len(p.s))
	case 2:
		for n := p.num(); n > 0 && p.ok; n-- {
			kind := p.kind()
			name := p.cut(p.num())
			x.Entries = append(x.Entries, api.Entry{Name: name, Kind: kind, Id: p.cut(32)})
		}
	case 3:
		x.Tree = p.cut(32)
		for n := p.num(); n > 0 && p.ok; n-- {
			x.Parents = append(x.Parents, p.cut(32))
		}
		x.Height = p.num()
		x.Note = p.cut(p.num())
	}
	if !p.ok || p.s != "" || !isObject(x) {
		return api.Object{}, api.ErrForm
	}
	return x, api.OK
}

// What objects are made of here.

// id: 32 bytes c.
func id(c byte) string { return strings.Repeat(string([]byte{c}), 32) }

// sized: n bytes c.
func sized(c byte, n int) string { return strings.Repeat(string([]byte{c}), n) }

// ids: so many ids that rise.
func ids(n int) []string {
	var list []string
	for k := range n {
		list = append(list, id(byte(k)))
	}
	return list
}

// entries: so many entries whose names rise.
func entries(n int) []api.Entry {
	var list []api.Entry
	for k := range n {
		list = append(list, api.Entry{Name: fmt.Sprintf("n%04d", k), Kind: 1 + k%2, Id: id(byte(k * 7))})
	}
	return list
}

func blob(data string) api.Object          { return api.Object{Kind: api.Blob, Data: data} }
func tree(list ...api.Entry) api.Object    { return api.Object{Kind: api.Tree, Entries: list} }
func file(name string, c byte) api.Entry   { return api.Entry{Name: name, Kind: api.Blob, Id: id(c)} }
func folder(name string, c byte) api.Entry { return api.Entry{Name: name, Kind: api.Tree, Id: id(c)} }
func first(c byte, note string) api.Object {
	return api.Object{Kind: api.Commit, Tree: id(c), Note: note}
}
func onto(h int, list ...string) api.Object {
	return api.Object{Kind: api.Commit, Tree: id(0x77), Parents: list, Height: h, Note: "on"}
}

// objects are some of each kind, the ends of all limits among them.
func objects() []api.Object {
	list := []api.Object{blob(""), blob("h"), blob("hi"), blob("\x00"), blob("\x01"), blob("\x01\x02\x03"), blob("\xff\xfe"),
		blob(layout(tree())), blob(sized('x', 65535)), blob(sized('\x00', 65536)),
		tree(), tree(file("a", 1)), tree(folder("a", 1)), tree(file("a", 1), folder("ab", 1)), tree(folder("a", 0), file("b", 255)),
		tree(file("A", 3), file("a", 2), file("b", 1)), tree(file("\x01", 0), file("\xff", 0)), tree(file(sized('n', 255), 9)),
		tree(file(sized('n', 254), 9), folder(sized('n', 255), 8)), tree(file("...", 1), file("..a", 1), file(".a", 1)),
		tree(entries(255)...), tree(entries(256)...),
		first(7, ""), first(0, "n"), first(255, "\x00\xff/.."), first(1, sized('n', 999)), first(1, sized('\xff', 1000)),
		onto(1, id(0)), onto(2, id(255)), onto(1<<30, id(1)), onto(1<<30-1, id(1)), onto(258, id(1), id(2)), onto(1, ids(7)...),
		onto(1<<16, ids(8)...), onto(3, id(0x76), id(0x77), id(0x78)), onto(3, id(0x7f), id(0x80))}
	var longest []api.Entry
	for k := range 256 {
		longest = append(longest, file(fmt.Sprintf("%0255d", k), 3))
	}
	return append(list, tree(longest...))
}

// holds: each call on x answers what the words say, and good is whether x is an object.
func holds(t *testing.T, what string, x api.Object, good bool) {
	t.Helper()
	was := x
	was.Entries, was.Parents = slices.Clone(x.Entries), slices.Clone(x.Parents)
	if got := object.Good(x); got != good || isObject(x) != good {
		t.Errorf("%s: Good is %v", what, got)
	}
	s, code := object.Encode(x)
	if links := object.Links(x); !slices.Equal(links, linksOf(x)) {
		t.Errorf("%s: Links are %#v", what, links)
	}
	if !same(x, was) {
		t.Errorf("%s: the object was changed", what)
	}
	if !good {
		if s != "" || code != api.ErrArg {
			t.Errorf("%s: Encode is %d bytes, %d", what, len(s), code)
		}
		return
	}
	if s != layout(x) || code != api.OK {
		t.Errorf("%s: Encode is %d bytes, %d", what, len(s), code)
	}
	if y, code := object.Decode(s); !same(y, bare(x)) || code != api.OK {
		t.Errorf("%s: Decode of Encode is another object, %d", what, code)
	}
}

// reads: Decode answers what the words say, and good is whether s is an object's bytes.
func reads(t *testing.T, what string, s string, good bool) {
	t.Helper()
	x, code := object.Decode(s)
	want, wanted := decodeByWords(s)
	if !same(x, want) || code != wanted || (code == api.OK) != good {
		t.Errorf("%s: Decode of %d bytes is kind %d, %d", what, len(s), x.Kind, code)
	}
	if code != api.OK {
		return
	}
	if back, code := object.Encode(x); back != s || code != api.OK {
		t.Errorf("%s: Encode of Decode is %d bytes, %d", what, len(back), code)
	}
}

// numbers are whole numbers around the ends of what they may be, some of which look right if they are cut to a byte or to four.
func numbers() []int {
	return []int{math.MinInt, math.MinInt32, -1 << 32, -257, -256, -255, -2, -1, 0, 1, 2, 3, 4, 5, 127, 128, 255, 256, 257, 258, 259, 513,
		1<<30 - 1, 1 << 30, 1<<30 + 1, math.MaxInt32, 1 << 31, 1<<32 - 1, 1 << 32, 1<<32 + 1, 1<<32 + 2, 1<<32 + 3, math.MaxInt}
}

// sizes are lengths of what should be an id; the right one is 32.
func sizes() []int { return []int{0, 1, 16, 31, 32, 33, 63, 64, 288} }

// P6.1: each kind, and numbers that are none.
func TestEachKind(t *testing.T) {
	for _, n := range numbers() {
		x := api.Object{Kind: n, Data: "d", Entries: entries(2), Tree: id(1), Parents: ids(2), Height: 5, Note: "n"}
		holds(t, fmt.Sprint("kind ", n), x, n == 1 || n == 2 || n == 3)
		holds(t, fmt.Sprint("kind alone ", n), api.Object{Kind: n}, n == 1 || n == 2)
	}
}

// P6.1, P6.4: some of each kind, all ends of limits among them.
func TestObjects(t *testing.T) {
	for k, x := range objects() {
		holds(t, fmt.Sprint("object ", k), x, true)
		reads(t, fmt.Sprint("object ", k), layout(x), true)
	}
}

// P6.1: the bytes, written out.
func TestBytesWrittenOut(t *testing.T) {
	for _, c := range []struct {
		x    api.Object
		want string
	}{
		{blob("hi"), "\x01\x68\x69"},
		{blob(""), "\x01"},
		{tree(), "\x02\x00\x00\x00\x00"},
		{tree(folder("a", 1), file("ab", 2)), "\x02\x02\x00\x00\x00\x02\x01\x00\x00\x00a" + id(1) + "\x01\x02\x00\x00\x00ab" + id(2)},
		{first(7, ""), "\x03" + id(7) + "\x00\x00\x00\x00\x00\x00\x00\x00\x00\x00\x00\x00"},
		{first(7, "hi"), "\x03" + id(7) + "\x00\x00\x00\x00\x00\x00\x00\x00\x02\x00\x00\x00hi"},
		{onto(1<<30, id(1)), "\x03" + id(0x77) + "\x01\x00\x00\x00" + id(1) + "\x00\x00\x00\x40\x02\x00\x00\x00on"},
		{onto(0x01020304, id(1), id(2)), "\x03" + id(0x77) + "\x02\x00\x00\x00" + id(1) + id(2) + "\x04\x03\x02\x01\x02\x00\x00\x00on"},
	} {
		if s, code := object.Encode(c.x); s != c.want || code != api.OK {
			t.Errorf("%q, %d; want %q", s, code, c.want)
		}
		if x, code := object.Decode(c.want); !same(x, c.x) || code != api.OK {
			t.Errorf("%q is %#v, %d", c.want, x, code)
		}
	}
	s, _ := object.Encode(tree(entries(256)...))
	if !strings.HasPrefix(s, "\x02\x00\x01\x00\x00\x01\x05\x00\x00\x00n0000") || len(s) != 5+256*(1+4+5+32) {
		t.Errorf("256 entries: %d bytes that begin with %x", len(s), s[:20])
	}
}

// P6.1: blobs at their limit.
func TestLengthsOfBlobs(t *testing.T) {
	for _, n := range []int{0, 1, 2, 255, 256, 65535, 65536, 65537, 65538, 1 << 17, 1 << 22} {
		what := fmt.Sprint("blob of ", n)
		holds(t, what, blob(sized('b', n)), n <= 65536)
		reads(t, what, layout(blob(sized('b', n))), n <= 65536)
	}
	for c := range 256 {
		holds(t, fmt.Sprint("byte ", c), blob(string([]byte{byte(c)})), true)
	}
}

// P6.1: trees at their limit.
func TestNumbersOfEntries(t *testing.T) {
	for _, n := range []int{0, 1, 2, 3, 8, 9, 255, 256, 257, 258, 512, 1000} {
		what := fmt.Sprint("tree of ", n)
		holds(t, what, tree(entries(n)...), n <= 256)
		reads(t, what, layout(tree(entries(n)...)), n <= 256)
	}
	holds(t, "tree, empty list", api.Object{Kind: api.Tree, Entries: []api.Entry{}}, true)
}

// P6.1: each entry's name must be one.
func TestNamesOfEntries(t *testing.T) {
	right := []string{"a", ".a", "...", "..a", " ", "\x01", "\xff", "é", "a.b", "a\\b", sized('n', 254), sized('n', 255), sized('\xff', 255)}
	wrong := []string{"", ".", "..", "/", "a/b", "/a", "a/", "\x00", "a\x00", "\x00a", sized('n', 256), sized('n', 257), sized('n', 65536), sized('.', 256)}
	for k, name := range slices.Concat(right, wrong) {
		what, good := fmt.Sprint("name ", k), k < len(right)
		holds(t, what, tree(file(name, 1)), good)
		reads(t, what, layout(tree(file(name, 1))), good)
		list := []api.Entry{file("\x01\x01", 2), file("b", 3), file("\xff\xff\xff", 4), file(name, 5)}
		slices.SortFunc(list, func(a, b api.Entry) int { return strings.Compare(a.Name, b.Name) })
		holds(t, what+" among others", tree(list...), good)
		reads(t, what+" among others", layout(tree(list...)), good)
	}
}

// P6.1: names rise as bytes, each once; all lists of up to three names.
func TestNamesRise(t *testing.T) {
	names := []string{"A", "B", "a", "a.b", "a0", "aa", "ab", "b", "\x7f", "\x80", "\xff", sized('a', 254), sized('a', 255)}
	for _, a := range names {
		for _, b := range names {
			two := tree(file(a, 2), folder(b, 1))
			holds(t, fmt.Sprintf("%q, %q", a, b), two, bytes.Compare([]byte(a), []byte(b)) < 0)
			reads(t, fmt.Sprintf("%q, %q", a, b), layout(two), bytes.Compare([]byte(a), []byte(b)) < 0)
			for _, c := range names {
				three := tree(file(a, 2), folder(b, 1), file(c, 3))
				holds(t, fmt.Sprintf("%q, %q, %q", a, b, c), three, rise([]string{a, b, c}))
				reads(t, fmt.Sprintf("%q, %q, %q", a, b, c), layout(three), rise([]string{a, b, c}))
			}
		}
	}
}

// P6.1: at each place of a full tree, a name that is there twice, or that falls.
func TestNamesRiseAtEachPlace(t *testing.T) {
	for k := range 255 {
		list := entries(256)
		list[k+1].Name = list[k].Name
		holds(t, fmt.Sprint("twice at ", k+1), tree(list...), false)
		list = entries(256)
		list[k], list[k+1] = list[k+1], list[k]
		holds(t, fmt.Sprint("falling at ", k+1), tree(list...), false)
		reads(t, fmt.Sprint("falling at ", k+1), layout(tree(list...)), false)
	}
}

// P6.1: entries of each kind, and of none, at each place.
func TestKindsOfEntries(t *testing.T) {
	for _, n := range numbers() {
		for at := range 3 {
			list := entries(3)
			list[at].Kind = n
			what := fmt.Sprintf("kind %d at %d", n, at)
			holds(t, what, tree(list...), n == 1 || n == 2)
			if n >= 0 && n <= 255 {
				reads(t, what, layout(tree(list...)), n == 1 || n == 2)
			}
		}
	}
}

// P6.1: ids of entries, of a commit's tree and of its parents, at each place, have 32 bytes.
func TestSizesOfIds(t *testing.T) {
	for _, n := range sizes() {
		for at := range 3 {
			list := entries(3)
			list[at].Id = sized('i', n)
			what := fmt.Sprintf("id of %d at %d", n, at)
			holds(t, "entry's "+what, tree(list...), n == 32)
			reads(t, "entry's "+what, layout(tree(list...)), n == 32)
			parents := []string{id(1), id(2), id(3)}
			parents[at] = sized(byte(at+1), n)
			holds(t, "parent's "+what, onto(4, parents...), n == 32)
			reads(t, "parent's "+what, layout(onto(4, parents...)), n == 32)
		}
		for _, x := range []api.Object{first(0, "note"), onto(4, ids(2)...)} {
			x.Tree = sized('t', n)
			holds(t, fmt.Sprint("tree's id of ", n), x, n == 32)
			reads(t, fmt.Sprint("tree's id of ", n), layout(x), n == 32)
		}
		holds(t, fmt.Sprint("one entry's id of ", n), tree(api.Entry{Name: "a", Kind: 1, Id: sized('i', n)}), n == 32)
		holds(t, fmt.Sprint("one parent's id of ", n), onto(1, sized('i', n)), n == 32)
	}
}

// P6.1: so many parents, with each height that may be.
func TestNumbersOfParents(t *testing.T) {
	for _, n := range []int{1, 2, 3, 7, 8, 9, 10, 16, 256} {
		for _, h := range []int{1, 2, 1 << 30} {
			what := fmt.Sprintf("%d parents, height %d", n, h)
			holds(t, what, onto(h, ids(n)...), n <= 8)
			reads(t, what, layout(onto(h, ids(n)...)), n <= 8)
		}
	}
	x := first(1, "")
	x.Parents = []string{}
	holds(t, "no parents, empty list", x, true)
}

// P6.1: parents rise, each once; all lists of up to three, of ids that begin alike, too.
func TestParentsRise(t *testing.T) {
	list := []string{id(0), sized(0, 31) + "\x01", id(1), sized(1, 31) + "\x02", id(0x7f), id(0x80), id(0xff)}
	for _, a := range list {
		for _, b := range list {
			two := onto(1, a, b)
			holds(t, fmt.Sprintf("%x, %x", a, b), two, rise([]string{a, b}))
			reads(t, fmt.Sprintf("%x, %x", a, b), layout(two), rise([]string{a, b}))
			for _, c := range list {
				holds(t, fmt.Sprintf("%x, %x, %x", a, b, c), onto(9, a, b, c), rise([]string{a, b, c}))
			}
		}
	}
	for k := range 7 {
		eight := ids(8)
		eight[k], eight[k+1] = eight[k+1], eight[k]
		holds(t, fmt.Sprint("falling at ", k+1), onto(1, eight...), false)
		eight = ids(8)
		eight[k+1] = eight[k]
		holds(t, fmt.Sprint("twice at ", k+1), onto(1, eight...), false)
		reads(t, fmt.Sprint("twice at ", k+1), layout(onto(1, eight...)), false)
	}
}

// P6.1: heights, with parents and without.
func TestHeightsOfCommits(t *testing.T) {
	for _, h := range numbers() {
		for n := range 3 {
			x := onto(h, ids(n)...)
			good := n == 0 && h == 0 || n > 0 && h >= 1 && h <= 1<<30
			what := fmt.Sprintf("height %d, %d parents", h, n)
			holds(t, what, x, good)
			if h >= 0 && h < 1<<32 {
				reads(t, what, layout(x), good)
			}
		}
	}
}

// P6.1: notes at their limit.
func TestLengthsOfNotes(t *testing.T) {
	for _, n := range []int{0, 1, 2, 255, 256, 999, 1000, 1001, 1002, 65536} {
		for _, x := range []api.Object{first(1, sized('\xff', n)), {Kind: 3, Tree: id(1), Parents: ids(8), Height: 1, Note: sized(0, n)}} {
			holds(t, fmt.Sprint("note of ", n), x, n <= 1000)
			reads(t, fmt.Sprint("note of ", n), layout(x), n <= 1000)
		}
	}
}

// filled: x with junk in all fields that play no part.
func filled(x api.Object) api.Object {
	y := api.Object{Kind: x.Kind, Data: sized('d', 65537), Entries: append(entries(300), file("..", 1)), Tree: "t",
		Parents: append(ids(20), "p"), Height: -1, Note: sized('n', 1001)}
	switch x.Kind {
	case 1:
		y.Data = x.Data
	case 2:
		y.Entries = x.Entries
	case 3:
		y.Tree, y.Parents, y.Height, y.Note = x.Tree, x.Parents, x.Height, x.Note
	}
	return y
}

// P6.1, P6.3: other fields play no part, set or not, in what is an object and in what is none.
func TestFieldsThatPlayNoPart(t *testing.T) {
	for k, x := range objects() {
		y := filled(x)
		holds(t, fmt.Sprint("filled ", k), y, true)
		s, _ := object.Encode(x)
		if got, _ := object.Encode(y); got != s {
			t.Errorf("object %d: other bytes with fields that play no part", k)
		}
		if !slices.Equal(object.Links(x), object.Links(y)) {
			t.Errorf("object %d: other links with fields that play no part", k)
		}
	}
	for k, x := range []api.Object{{}, {Kind: 4}, blob(sized('x', 65537)), tree(entries(257)...), tree(file("..", 1)), onto(0, id(1)), first(1, sized('n', 1001))} {
		holds(t, fmt.Sprint("none ", k), x, false)
		holds(t, fmt.Sprint("none, filled ", k), filled(x), false)
		// Fields of a good object of another kind don't make it one.
		x.Data += "d"
		if x.Kind == 3 || x.Kind == 1 {
			x.Entries = entries(2)
		}
		if x.Kind != 3 {
			x.Tree, x.Parents, x.Height = id(1), ids(2), 7
		}
		holds(t, fmt.Sprint("none, with others ", k), x, false)
	}
}

// P6.1: no bytes, one byte, two bytes: just the blobs of them are objects.
func TestDecodeOfFewBytes(t *testing.T) {
	reads(t, "no bytes", "", false)
	for c := range 256 {
		reads(t, fmt.Sprint("byte ", c), string([]byte{byte(c)}), c == 1)
		for d := range 256 {
			reads(t, fmt.Sprint("bytes ", c, d), string([]byte{byte(c), byte(d)}), c == 1)
		}
	}
	for c := range 256 {
		s := string([]byte{byte(c)}) + "\x00\x00\x00\x00"
		reads(t, fmt.Sprintf("%x", s), s, c == 1 || c == 2)
		s = string([]byte{byte(c)}) + layout(first(1, "n"))[1:]
		reads(t, fmt.Sprint("a commit's bytes behind ", c), s, c == 1 || c == 3)
	}
}

// P6.1, P6.4: cut off at each place, a tree or a commit is none, and a blob another one.
func TestDecodeOfWhatIsCut(t *testing.T) {
	for k, x := range objects() {
		s := layout(x)
		step := 1
		if len(s) > 5000 {
			step = 97
		}
		for cut := 0; cut < len(s); cut += step {
			reads(t, fmt.Sprintf("object %d cut at %d", k, cut), s[:cut], x.Kind == 1 && cut > 0)
		}
		reads(t, fmt.Sprintf("object %d without its last byte", k), s[:len(s)-1], x.Kind == 1 && len(s) > 1)
	}
}

// P6.1, P6.4: with more behind it, a tree or a commit is none.
func TestDecodeOfMoreBehind(t *testing.T) {
	for k, x := range objects() {
		s := layout(x)
		for _, more := range []string{"\x00", "\x01", "\xff", "\x00\x00\x00\x00", s, id(1), layout(tree(file("z", 1)))[5:]} {
			good := x.Kind == 1 && len(s)+len(more) <= 65537
			reads(t, fmt.Sprintf("object %d with %d bytes more", k, len(more)), s+more, good)
		}
	}
}

// P6.1: numbers in a tree's bytes that say more, or less, than is there, or more than is let.
func TestDecodeOfWrongNumbersInTrees(t *testing.T) {
	wrong := []int{4, 5, 255, 256, 257, 258, 65536, 1<<24 + 3, 1<<31 - 1, 1 << 31, 1<<32 - 2, 1<<32 - 1}
	body := layout(tree(entries(3)...))[5:]
	for _, n := range append([]int{0, 1, 2}, wrong...) {
		reads(t, fmt.Sprint("3 entries told as ", n), "\x02"+num(n)+body, false)
	}
	for _, n := range []int{256, 257, 300} {
		many := layout(tree(entries(n)...))[5:]
		reads(t, fmt.Sprint("entries there: ", n), "\x02"+num(n)+many, n == 256)
		reads(t, "256 told, entries there: "+fmt.Sprint(n), "\x02"+num(256)+many, n == 256)
	}
	for _, n := range append([]int{0, 1, 2, 37}, wrong...) {
		reads(t, fmt.Sprint("a name of 3 told as ", n), "\x02"+num(1)+"\x01"+num(n)+"abc"+id(1), false)
	}
	reads(t, "no entries told, one there", "\x02"+num(0)+layout(tree(file("a", 1)))[5:], false)
}

// P6.1: numbers in a commit's bytes that say more, or less, than is there, or more than is let.
func TestDecodeOfWrongNumbersInCommits(t *testing.T) {
	commit := func(parents int, list []string, height, length int, note string) string {
		return "\x03" + id(5) + num(parents) + strings.Join(list, "") + num(height) + num(length) + note
	}
	reads(t, "a right one", commit(2, ids(2), 7, 4, "note"), true)
	for _, n := range []int{0, 1, 3, 4, 7, 8, 9, 256, 65536, 1 << 24, 1<<31 - 1, 1 << 31, 1<<32 - 1} {
		reads(t, fmt.Sprint("2 parents told as ", n), commit(n, ids(2), 7, 4, "note"), false)
	}
	for n := range 12 {
		reads(t, fmt.Sprint("parents there: ", n), commit(n, ids(n), min(n, 1), 0, ""), n <= 8)
		reads(t, fmt.Sprint("8 told, parents there: ", n), commit(8, ids(n), 1, 0, ""), n == 8)
	}
	for _, h := range []int{0, 1<<30 + 1, 1<<31 - 1, 1 << 31, 1<<31 + 1, 1<<32 - 1} {
		reads(t, fmt.Sprint("height ", h), commit(2, ids(2), h, 4, "note"), false)
		reads(t, fmt.Sprint("height of the first ", h), commit(0, nil, h, 4, "note"), h == 0)
	}
	for _, n := range []int{0, 3, 5, 1000, 1001, 65536, 1<<31 - 1, 1 << 31, 1<<32 - 1} {
		reads(t, fmt.Sprint("a note of 4 told as ", n), commit(2, ids(2), 7, n, "note"), false)
	}
	for _, n := range []int{999, 1000, 1001, 1002} {
		reads(t, fmt.Sprint("note there: ", n), commit(0, nil, 0, n, sized('n', n)), n <= 1000)
	}
}

// P6.4: with each byte changed, in turn, what is read has no other bytes than these.
func TestDecodeOfChangedBytes(t *testing.T) {
	for k, x := range objects() {
		s := layout(x)
		if len(s) > 2000 {
			continue
		}
		for at := range len(s) {
			for _, c := range []byte{0, 1, 2, 3, 4, '/', '.', 'a', 'z', 0x7f, 0x80, 0xff, s[at] + 1, s[at] - 1, s[at] ^ 0x80} {
				b := []byte(s)
				b[at] = c
				_, code := decodeByWords(string(b))
				reads(t, fmt.Sprintf("object %d, byte %d is %d", k, at, c), string(b), code == api.OK)
			}
		}
	}
}

// P6.4: an object has one form: unlike ones have unlike bytes and ids.
func TestUnlikeObjectsHaveUnlikeBytes(t *testing.T) {
	list := objects()
	for k, x := range list {
		s, _ := object.Encode(x)
		for l, y := range list[:k] {
			if r, _ := object.Encode(y); r == s || object.Id(r) == object.Id(s) {
				t.Errorf("objects %d and %d are written alike", l, k)
			}
		}
	}
}

// P6.1: the id is the digest of bytes, an object's or not.
func TestId(t *testing.T) {
	texts := []string{"", "\x00", "\x01", "\x01hi", "abc", sized('x', 55), sized('x', 64), sized('x', 1<<17+1)}
	for _, x := range objects() {
		texts = append(texts, layout(x))
	}
	for k, s := range texts {
		want := sha256.Sum256([]byte(s))
		if got := object.Id(s); got != string(want[:]) {
			t.Errorf("text %d: id %x", k, got)
		}
	}
}

// P6.2: one more than the greatest of the parents' heights, wherever it stands.
func TestHeight(t *testing.T) {
	for _, c := range []struct {
		list []int
		want int
	}{
		{nil, 0}, {[]int{}, 0}, {[]int{0}, 1}, {[]int{1}, 2}, {[]int{7}, 8}, {[]int{0, 0}, 1}, {[]int{5, 5, 5}, 6},
		{[]int{3, 9, 2}, 10}, {[]int{9, 3, 2}, 10}, {[]int{2, 3, 9}, 10}, {[]int{2, 9, 9, 3}, 10}, {[]int{0, 1}, 2}, {[]int{1, 0}, 2},
		{[]int{1<<30 - 1}, 1 << 30}, {[]int{1 << 30}, 1<<30 + 1}, {[]int{math.MaxInt32}, 1 << 31}, {[]int{math.MaxInt - 1}, math.MaxInt},
		{[]int{-1}, 0}, {[]int{-5, -7}, -4}, {[]int{math.MinInt}, math.MinInt + 1}, {[]int{math.MinInt, 4}, 5},
		{[]int{8, 7, 6, 5, 4, 3, 2, 1, 0, 11, 10}, 12},
	} {
		was := slices.Clone(c.list)
		if got := object.Height(c.list); got != c.want {
			t.Errorf("Height(%v) is %d, not %d", c.list, got, c.want)
		}
		if !slices.Equal(was, c.list) {
			t.Errorf("Height changed %v to %v", was, c.list)
		}
	}
	for n := 1; n <= 9; n++ {
		for at := range n {
			list := slices.Repeat([]int{3}, n)
			list[at] = 40
			if got := object.Height(list); got != 41 {
				t.Errorf("Height(%v) is %d", list, got)
			}
		}
	}
}

// P1: there is no number above the greatest, and yet the call ends.
func TestHeightOfTheGreatest(t *testing.T) {
	object.Height([]int{math.MaxInt})
	object.Height([]int{math.MaxInt, math.MinInt, 0})
}

// linksAre: Links of x are these.
func linksAre(t *testing.T, what string, x api.Object, want ...api.Link) {
	t.Helper()
	if got := object.Links(x); !slices.Equal(got, want) {
		t.Errorf("%s: %#v", what, got)
	}
}

// P6.3: what blobs, trees and commits name.
func TestLinks(t *testing.T) {
	link := func(kind int, c byte) api.Link { return api.Link{Kind: kind, Id: id(c)} }
	linksAre(t, "a blob", blob("hi"))
	linksAre(t, "a blob that looks like a tree", blob(layout(tree(file("a", 1)))))
	linksAre(t, "the empty tree", tree())
	linksAre(t, "one entry", tree(file("a", 4)), link(1, 4))
	linksAre(t, "falling ids", tree(file("a", 9), folder("b", 5), file("c", 0)), link(1, 0), link(2, 5), link(1, 9))
	linksAre(t, "bytes above 7f", tree(file("a", 0x80), file("b", 0x7f), file("c", 0xff)), link(1, 0x7f), link(1, 0x80), link(1, 0xff))
	linksAre(t, "one id of one kind", tree(file("a", 4), file("b", 4), file("c", 4)), link(1, 4))
	linksAre(t, "one id of two kinds", tree(folder("a", 4), file("b", 4)), link(1, 4), link(2, 4))
	linksAre(t, "one id of two kinds, twice", tree(folder("a", 4), file("b", 4), folder("c", 4), file("d", 4)), link(1, 4), link(2, 4))
	linksAre(t, "twice, apart", tree(file("a", 4), file("b", 2), file("c", 4), folder("d", 3), file("e", 2)), link(1, 2), link(2, 3), link(1, 4))
	linksAre(t, "the first commit", first(6, "n"), link(2, 6))
	linksAre(t, "parents around the tree", onto(1, id(0x76), id(0x78)), link(3, 0x76), link(2, 0x77), link(3, 0x78))
	linksAre(t, "a parent with the tree's id", onto(1, id(0x76), id(0x77)), link(3, 0x76), link(2, 0x77), link(3, 0x77))
	linksAre(t, "parents above the tree", onto(1, id(0x80), id(0xff)), link(2, 0x77), link(3, 0x80), link(3, 0xff))
}

// P6.3: ids that differ in their last byte alone are two, in their order.
func TestLinksOfIdsThatBeginAlike(t *testing.T) {
	low, high := sized(5, 31)+"\x01", sized(5, 31)+"\xf0"
	x := tree(api.Entry{Name: "a", Kind: 1, Id: high}, api.Entry{Name: "b", Kind: 2, Id: low}, api.Entry{Name: "c", Kind: 1, Id: low})
	linksAre(t, "alike", x, api.Link{Kind: 1, Id: low}, api.Link{Kind: 2, Id: low}, api.Link{Kind: 1, Id: high})
}

// P6.3: nothing of what is no object, though its fields tell ids.
func TestLinksOfNoObjects(t *testing.T) {
	for k, x := range []api.Object{{}, {Entries: entries(2), Tree: id(1)}, {Kind: 4, Entries: entries(2), Tree: id(1), Parents: ids(2)},
		tree(file("b", 1), file("a", 2)), tree(file("a", 1), file("a", 1)), tree(file("a", 1), file("..", 2)), tree(entries(257)...),
		onto(0, id(1)), onto(-1, id(1)), onto(1<<30+1, id(1)), onto(1, id(2), id(1)), onto(1, ids(9)...), first(1, sized('n', 1001)),
		{Kind: 3, Tree: id(1), Height: 1}, {Kind: 3, Tree: "x", Parents: ids(1), Height: 1}} {
		linksAre(t, fmt.Sprint("none ", k), x)
	}
}

// P6.3: mixed trees and commits, with few ids, so that many come twice.
func TestLinksOfMixedObjects(t *testing.T) {
	r := rand.New(rand.NewSource(6))
	for round := range 400 {
		n := r.Intn(257)
		list := entries(n)
		few := 1 + r.Intn(40)
		for k := range list {
			list[k].Kind, list[k].Id = 1+r.Intn(2), id(byte(r.Intn(few)*6))
		}
		holds(t, fmt.Sprint("mixed tree ", round), tree(list...), true)
		parents := ids(10)[r.Intn(3):][:1+r.Intn(8)]
		x := onto(1+r.Intn(1<<30), parents...)
		x.Tree = id(byte(r.Intn(12)))
		holds(t, fmt.Sprint("mixed commit ", round), x, true)
	}
}

// P6.4: what is answered is new memory, and what was handed in is not kept.
func TestNewMemory(t *testing.T) {
	for _, s := range []string{layout(tree(entries(5)...)), layout(onto(3, ids(5)...))} {
		a, _ := object.Decode(s)
		b, _ := object.Decode(s)
		links := object.Links(a)
		kept := slices.Clone(links)
		for k := range a.Entries {
			a.Entries[k] = api.Entry{}
		}
		for k := range a.Parents {
			a.Parents[k] = "changed"
		}
		if got, code := object.Encode(b); got != s || code != api.OK {
			t.Error("two answers share their lists")
		}
		if !slices.Equal(links, kept) {
			t.Error("links share an object's lists")
		}
		links = object.Links(b)
		clear(links[:cap(links)])
		if got, _ := object.Encode(b); got != s {
			t.Error("an object shares its links' list")
		}
		if c, _ := object.Decode(s); !same(b, c) {
			t.Error("an answer was kept")
		}
	}
}

// Rule 3: lists that are handed in are not changed, their spare room neither.
func TestSpareRoomStays(t *testing.T) {
	x := api.Object{Kind: api.Tree, Entries: entries(8)[:3], Parents: ids(8)[:3], Tree: id(1), Height: 2}
	heights := []int{5, 1, 9, 4, 3}[:3]
	for _, kind := range []int{api.Tree, api.Commit, api.Blob, 9} {
		x.Kind = kind
		object.Good(x)
		object.Encode(x)
		object.Links(x)
		object.Height(heights)
		if !slices.Equal(x.Entries[:8], entries(8)) || !slices.Equal(x.Parents[:8], ids(8)) || !slices.Equal(heights[:5], []int{5, 1, 9, 4, 3}) {
			t.Errorf("kind %d: a list or its spare room was changed", kind)
		}
	}
}

// Rule 4: a call hangs on its arguments alone; asked again behind others, it answers the same.
func TestAskedAgain(t *testing.T) {
	list := objects()
	for _, round := range [][]api.Object{list, slices.Concat(list[5:], list[:5]), list} {
		for k, x := range round {
			holds(t, fmt.Sprint("asked again ", k), x, true)
			reads(t, "no object between", "\x02\xff\xff\xff\xff", false)
		}
	}
}

// P1: very long bytes and lists are refused.
func TestVeryLong(t *testing.T) {
	for _, kind := range []string{"\x00", "\x01", "\x02", "\x03", "\xff"} {
		for _, fill := range []byte{0, 1, 0xff} {
			reads(t, "very long", kind+sized(fill, 1<<22), false)
		}
	}
	holds(t, "very many entries", tree(slices.Repeat(entries(1), 1<<18)...), false)
	holds(t, "very many parents", onto(1, slices.Repeat(ids(1), 1<<18)...), false)
}

// P1, P6.4: whatever bytes are read, they are an object's in one form, or none.
func FuzzDecode(f *testing.F) {
	for _, x := range objects() {
		if s := layout(x); len(s) < 3000 {
			f.Add(s)
		}
	}
	f.Add("")
	f.Add("\x02\xff\xff\xff\xff")
	f.Fuzz(func(t *testing.T, s string) {
		_, code := decodeByWords(s)
		reads(t, fmt.Sprintf("%x", s), s, code == api.OK)
	})
}

// P1, P6.1, P6.3: whatever fields are set, each call answers what the words say.
func FuzzObject(f *testing.F) {
	f.Add(1, "hi", "a", 1, "b", 2, id(1), id(2), 0, "note")
	f.Add(2, "", "a", 1, "b", 2, id(1), id(2), 0, "")
	f.Add(3, "", "a", 1, "b", 2, id(1), id(2), 1, "note")
	f.Add(2, "", "b", 1, "a", 1, id(1), id(1), 0, "")
	f.Add(3, "", "", 0, "", 0, id(2), id(1), 1<<30, "")
	f.Fuzz(func(t *testing.T, kind int, data, nameA string, kindA int, nameB string, kindB int, a, b string, height int, note string) {
		for _, parents := range [][]string{nil, {a}, {a, b}} {
			x := api.Object{Kind: kind, Data: data, Tree: b, Parents: parents, Height: height, Note: note,
				Entries: []api.Entry{{Name: nameA, Kind: kindA, Id: a}, {Name: nameB, Kind: kindB, Id: b}}}
			holds(t, fmt.Sprintf("%#v", x), x, isObject(x))
		}
	})
}

func ExampleEncode() {
	s, code := object.Encode(api.Object{Kind: api.Blob, Data: "hi"})
	fmt.Printf("% x %d\n", s, code)
	s, code = object.Encode(api.Object{Kind: api.Tree})
	fmt.Printf("% x %d\n", s, code)
	two := []api.Entry{{Name: "a", Kind: api.Blob, Id: id(1)}, {Name: "a", Kind: api.Blob, Id: id(2)}}
	s, code = object.Encode(api.Object{Kind: api.Tree, Entries: two})
	fmt.Printf("%q %d\n", s, code)
	two[0].Name = "b"
	s, code = object.Encode(api.Object{Kind: api.Tree, Entries: two})
	fmt.Printf("%q %d\n", s, code)
	// Output:
	// 01 68 69 0
	// 02 00 00 00 00 0
	// "" 1
	// "" 1
}
