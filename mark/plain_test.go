package mark_test

import (
	"bytes"
	"fmt"
	"math"
	"slices"
	"strings"
	"testing"

	"reliquary/api"
	"reliquary/mark"
)

// The chapter's own words, part by part, by which the answers are held; they are found by trying, which will do for short lists.

// isName: whether a text is a name of layer 5.
func isName(s string) bool {
	for k := range len(s) {
		if s[k] == '/' || s[k] == 0 {
			return false
		}
	}
	return len(s) >= 1 && len(s) <= 255 && s != "." && s != ".."
}

// isRef, isToken and isTomb: whether one can be among right marks, whatever stands beside it.
func isRef(r api.Ref) bool {
	return isName(r.Name) && len(r.Id) == 32 && 0 <= r.Height && r.Height <= 1073741824
}

func isToken(t api.Token) bool {
	return 1 <= t.Node && t.Node <= 7 && 1 <= t.N && t.N <= 1073741824 && len(t.Id) == 32
}

func isTomb(t api.Tomb) bool {
	for _, c := range t.Covers {
		if c.Id != t.Id {
			return false
		}
	}
	for k, n := range t.Acks {
		if n < 1 || n > 7 || k > 0 && n <= t.Acks[k-1] {
			return false
		}
	}
	return isToken(asToken(t)) && areTokens(t.Covers)
}

// asToken: what a tomb has of a token.
func asToken(t api.Tomb) api.Token { return api.Token{Node: t.Node, N: t.N, Id: t.Id} }

// stoodBehind: whether a token stands behind another one.
func stoodBehind(a, b api.Token) bool { return a.Node > b.Node || a.Node == b.Node && a.N > b.N }

// areTokens: whether tokens are right, rise, and aren't too many.
func areTokens(list []api.Token) bool {
	for k, t := range list {
		if !isToken(t) || k > 0 && !stoodBehind(t, list[k-1]) {
			return false
		}
	}
	return len(list) <= 256
}

// areMarks: whether marks are right.
func areMarks(m api.Marks) bool {
	for k, r := range m.Refs {
		if !isRef(r) || k > 0 && bytes.Compare([]byte(r.Name), []byte(m.Refs[k-1].Name)) <= 0 {
			return false
		}
	}
	for k, t := range m.Tombs {
		if !isTomb(t) || k > 0 && !stoodBehind(asToken(t), asToken(m.Tombs[k-1])) {
			return false
		}
	}
	return len(m.Refs) <= 64 && len(m.Tombs) <= 64 && areTokens(m.Tokens)
}

// num: four bytes, the lowest first.
func num(n int) string {
	return string([]byte{byte(n), byte(n >> 8), byte(n >> 16), byte(n >> 24)})
}

// layout: the bytes of marks, and what they would be of those that aren't right.
func layout(m api.Marks) string {
	var b strings.Builder
	b.WriteString(num(len(m.Refs)))
	for _, r := range m.Refs {
		b.WriteString(num(len(r.Name)) + r.Name + r.Id + num(r.Height))
	}
	b.WriteString(num(len(m.Tokens)))
	for _, t := range m.Tokens {
		b.WriteString(num(t.Node) + num(t.N) + t.Id)
	}
	b.WriteString(num(len(m.Tombs)))
	for _, t := range m.Tombs {
		b.WriteString(num(t.Node) + num(t.N) + t.Id + num(len(t.Covers)))
		for _, c := range t.Covers {
			b.WriteString(num(c.Node) + num(c.N))
		}
		b.WriteString(num(len(t.Acks)))
		for _, n := range t.Acks {
			b.WriteString(num(n))
		}
	}
	return b.String()
}

// parts cuts bytes into parts; short tells whether there were too few.
type parts struct {
	s     string
	short bool
}

func (p *parts) cut(n int) string {
	if p.short || n > len(p.s) {
		p.short = true
		return ""
	}
	s := p.s[:n]
	p.s = p.s[n:]
	return s
}

func (p *parts) num() int {
	n := 0
	for _, c := range slices.Backward([]byte(p.cut(4))) {
		n = n*256 + int(c)
	}
	return n
}

// each does something as often as the next number tells, while there are bytes.
func (p *parts) each(do func()) {
	for n := p.num(); n > 0 && !p.short; n-- {
		do()
	}
}

// plainDecode: the marks that bytes are cut into, if they are right and these are their bytes.
func plainDecode(s string) (api.Marks, api.Errno) {
	p := &parts{s: s}
	var m api.Marks
	p.each(func() { m.Refs = append(m.Refs, api.Ref{Name: p.cut(p.num()), Id: p.cut(32), Height: p.num()}) })
	p.each(func() { m.Tokens = append(m.Tokens, api.Token{Node: p.num(), N: p.num(), Id: p.cut(32)}) })
	p.each(func() {
		t := api.Tomb{Node: p.num(), N: p.num(), Id: p.cut(32)}
		p.each(func() { t.Covers = append(t.Covers, api.Token{Node: p.num(), N: p.num(), Id: t.Id}) })
		p.each(func() { t.Acks = append(t.Acks, p.num()) })
		m.Tombs = append(m.Tombs, t)
	})
	if p.short || p.s != "" || !areMarks(m) || layout(m) != s {
		return api.Marks{}, api.ErrForm
	}
	return m, api.OK
}

func plainRef(m api.Marks, name string) (api.Ref, bool) {
	at := slices.IndexFunc(m.Refs, func(r api.Ref) bool { return r.Name == name })
	if at < 0 {
		return api.Ref{}, false
	}
	return m.Refs[at], true
}

func plainNext(m api.Marks, node int) int {
	all := slices.Clone(m.Tokens)
	for _, t := range m.Tombs {
		all = append(all, asToken(t))
	}
	greatest, found := 0, false
	for _, t := range all {
		if t.Node == node && (!found || t.N > greatest) {
			greatest, found = t.N, true
		}
	}
	if !found {
		return 1
	}
	return greatest + 1
}

// plainSure takes two nodes away for each ack: it is sure, if there weren't so many.
func plainSure(t api.Tomb, nodes int) bool {
	for range t.Acks {
		if nodes < 2 {
			return true
		}
		nodes -= 2
	}
	return nodes < 0
}

func plainLive(m api.Marks, nodes int) []api.Token {
	var live []api.Token
	for _, t := range m.Tokens {
		lives := true
		for _, x := range m.Tombs {
			for _, c := range x.Covers {
				if plainSure(x, nodes) && c.Node == t.Node && c.N == t.N && c.Id == t.Id {
					lives = false
				}
			}
		}
		if lives {
			live = append(live, t)
		}
	}
	return live
}

// plainRoots puts each Id where it belongs among those ahead of it.
func plainRoots(m api.Marks, nodes int) []string {
	var all, ids []string
	for _, r := range m.Refs {
		all = append(all, r.Id)
	}
	for _, t := range plainLive(m, nodes) {
		all = append(all, t.Id)
	}
	for _, id := range all {
		if slices.Contains(ids, id) {
			continue
		}
		at := 0
		for at < len(ids) && bytes.Compare([]byte(ids[at]), []byte(id)) < 0 {
			at++
		}
		ids = slices.Insert(ids, at, id)
	}
	return ids
}

// id: an id of 32 alike bytes.
func id(b byte) string { return strings.Repeat(string([]byte{b}), 32) }

func ref(name string, b byte, height int) api.Ref {
	return api.Ref{Name: name, Id: id(b), Height: height}
}

func token(node, n int, b byte) api.Token { return api.Token{Node: node, N: n, Id: id(b)} }

// tomb: one with the tokens that it covers; acked: with the nodes that have laid it down.
func tomb(node, n int, b byte, covers ...api.Token) api.Tomb {
	return api.Tomb{Node: node, N: n, Id: id(b), Covers: covers}
}

func acked(t api.Tomb, acks ...int) api.Tomb {
	t.Acks = acks
	return t
}

func ofRefs(list ...api.Ref) api.Marks { return api.Marks{Refs: list} }

func ofTokens(list ...api.Token) api.Marks { return api.Marks{Tokens: list} }

func ofTombs(list ...api.Tomb) api.Marks { return api.Marks{Tombs: list} }

// copied: marks with memory of their own.
func copied(m api.Marks) api.Marks {
	tombs := slices.Clone(m.Tombs)
	for k, t := range tombs {
		tombs[k].Covers, tombs[k].Acks = slices.Clone(t.Covers), slices.Clone(t.Acks)
	}
	return api.Marks{Refs: slices.Clone(m.Refs), Tokens: slices.Clone(m.Tokens), Tombs: tombs}
}

func sameTomb(a, b api.Tomb) bool {
	return asToken(a) == asToken(b) && slices.Equal(a.Covers, b.Covers) && slices.Equal(a.Acks, b.Acks)
}

// same: whether marks are the same; a list that holds nothing may be nil or empty.
func same(a, b api.Marks) bool {
	return slices.Equal(a.Refs, b.Refs) && slices.Equal(a.Tokens, b.Tokens) && slices.EqualFunc(a.Tombs, b.Tombs, sameTomb)
}

// withRoom: a copy of a list with so many things behind it, out of its sight.
func withRoom[T any](list []T, spare ...T) []T {
	return slices.Concat(list, spare)[:len(list)]
}

// roomy: a copy of marks, with spare room that isn't empty behind all lists, and how to tell whether all of it is as it was.
func roomy(m api.Marks) (api.Marks, func() bool) {
	x := token(6, 60, 60)
	spare := tomb(5, 50, 60, x, x)
	out := api.Marks{Refs: withRoom(m.Refs, ref("spare", 60, 6)), Tokens: withRoom(m.Tokens, x), Tombs: withRoom(m.Tombs, acked(spare, 4, 5))}
	for k := range out.Tombs {
		t := &out.Tombs[k]
		t.Covers, t.Acks = withRoom(t.Covers, x), withRoom(t.Acks, 6)
	}
	was := copied(unrolled(out))
	return out, func() bool { return same(unrolled(out), was) }
}

// unrolled: marks with all that is in their lists' spare room.
func unrolled(m api.Marks) api.Marks {
	tombs := slices.Clone(m.Tombs[:cap(m.Tombs)])
	for k, t := range tombs {
		tombs[k].Covers, tombs[k].Acks = t.Covers[:cap(t.Covers)], t.Acks[:cap(t.Acks)]
	}
	return api.Marks{Refs: m.Refs[:cap(m.Refs)], Tokens: m.Tokens[:cap(m.Tokens)], Tombs: tombs}
}

// show: marks, or tokens, with their bytes quoted, not all of them if they are long.
func show(x any) string { return fmt.Sprintf("%.1000q", fmt.Sprint(x)) }

// goodIs checks what Good answers, and Encode; and that what was encoded is decoded as it was.
func goodIs(t *testing.T, m api.Marks, want bool) {
	t.Helper()
	handed, stayed := roomy(m)
	if got := mark.Good(handed); got != want {
		t.Errorf("Good(%s): %v", show(m), got)
	}
	s, code := mark.Encode(handed)
	switch {
	case want && (code != api.OK || s != layout(m)):
		t.Errorf("Encode(%s): %.400x, %d", show(m), s, code)
	case !want && (code != api.ErrArg || s != ""):
		t.Errorf("Encode(%s), which aren't right: %.400x, %d", show(m), s, code)
	case want:
		decodeIs(t, s, m, api.OK)
	}
	if !stayed() {
		t.Errorf("Good and Encode changed what was handed in: %s", show(m))
	}
}

// decodeIs checks what Decode answers, and that this is encoded as it was.
func decodeIs(t *testing.T, s string, want api.Marks, code api.Errno) {
	t.Helper()
	got, e := mark.Decode(s)
	if e != code || !same(got, want) {
		t.Fatalf("Decode(%.400x): %s, %d; not %s, %d", s, show(got), e, show(want), code)
	}
	if e != api.OK {
		return
	}
	if again, e := mark.Encode(got); e != api.OK || again != s {
		t.Fatalf("Encode of Decode(%.400x): %.400x, %d", s, again, e)
	}
}

// decodeFits checks it against the chapter's words.
func decodeFits(t *testing.T, s string) {
	t.Helper()
	want, code := plainDecode(s)
	decodeIs(t, s, want, code)
}

// nodeNumbers are numbers of nodes, and of how many there are, that can be and that can't.
var nodeNumbers = []int{0, 1, 2, 3, 4, 5, 6, 7, 8, 9, 13, 14, 15, -1, -2, 255, 1 << 31, 1 << 32, 1<<32 + 1, math.MaxInt - 1, math.MaxInt, math.MinInt, math.MinInt + 1}

// allFit checks all that can be asked of marks, right or not, against the chapter's words.
func allFit(t *testing.T, m api.Marks) {
	t.Helper()
	goodIs(t, m, areMarks(m))
	decodeFits(t, layout(m))
	handed, stayed := roomy(m)
	names := []string{"", ".", "a", "none", "spare"}
	for _, r := range m.Refs {
		names = append(names, r.Name, r.Name+"x", r.Id)
	}
	for _, name := range names {
		want, ok := plainRef(m, name)
		if got, is := mark.Ref(handed, name); got != want || is != ok {
			t.Errorf("Ref(%s, %q): %v, %v; not %v, %v", show(m), name, got, is, want, ok)
		}
	}
	for _, n := range nodeNumbers {
		askFits(t, m, handed, n)
	}
	if !stayed() {
		t.Errorf("Ref, Next, Sure, Live or Roots changed what was handed in: %s", show(m))
	}
}

// askFits checks what hangs on a number, of a node or of how many there are.
func askFits(t *testing.T, m, handed api.Marks, n int) {
	t.Helper()
	if got, want := mark.Next(handed, n), plainNext(m, n); got != want {
		t.Errorf("Next(%s, %d): %d, not %d", show(m), n, got, want)
	}
	for k, x := range handed.Tombs {
		if got, want := mark.Sure(x, n), plainSure(m.Tombs[k], n); got != want {
			t.Errorf("Sure(%v, %d): %v", x, n, got)
		}
	}
	if got, want := mark.Live(handed, n), plainLive(m, n); !slices.Equal(got, want) {
		t.Errorf("Live(%s, %d): %s, not %s", show(m), n, show(got), show(want))
	}
	if got, want := mark.Roots(handed, n), plainRoots(m, n); !slices.Equal(got, want) {
		t.Errorf("Roots(%s, %d): %.400q, not %.400q", show(m), n, got, want)
	}
}
