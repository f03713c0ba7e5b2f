package mark

import (
	"strings"

	"reliquary/api"
	"reliquary/octet"
)

// Encode: marks' bytes; ErrArg.
func Encode(m api.Marks) (string, api.Errno) {
	if !Good(m) {
		return "", api.ErrArg
	}
	return written(m.Refs, refBytes) + written(m.Tokens, tokenBytes) + written(m.Tombs, tombBytes), api.OK
}

// written: a list's bytes, behind the number of its elements.
func written[T any](list []T, bytesOf func(T) string) string {
	var b strings.Builder
	b.WriteString(numBytes(len(list)))
	for _, x := range list {
		b.WriteString(bytesOf(x))
	}
	return b.String()
}

// numBytes: the bytes of a number that is known to be right.
func numBytes(n int) string { return octet.Num(uint32(n)) }

// refBytes: a ref's bytes.
func refBytes(r api.Ref) string { return octet.Text(r.Name) + r.Id + numBytes(r.Height) }

// tokenBytes: a token's bytes.
func tokenBytes(t api.Token) string { return coverBytes(t) + t.Id }

// coverBytes: a token's bytes among Covers, where the tomb tells the Id.
func coverBytes(t api.Token) string { return numBytes(t.Node) + numBytes(t.N) }

// tombBytes: a tomb's bytes.
func tombBytes(t api.Tomb) string {
	return tokenBytes(head(t)) + written(t.Covers, coverBytes) + written(t.Acks, numBytes)
}

// Decode: the marks of bytes; ErrForm. Each part is written in one way only, so that what is read whole and can be marks has no other bytes.
func Decode(s string) (api.Marks, api.Errno) {
	r := reader{octet.New(s)}
	var m api.Marks
	m.Refs = read(r, api.MaxRefs, r.ref)
	m.Tokens = read(r, api.MaxTokens, r.token)
	m.Tombs = read(r, api.MaxTombs, r.tomb)
	if !r.Whole() || !Good(m) {
		return api.Marks{}, api.ErrForm
	}
	return m, api.OK
}

// reader reads the parts of marks.
type reader struct{ *octet.Reader }

// read: a list, each of its elements by a method of the reader.
func read[T any](r reader, most uint32, part func() T) []T {
	var list []T
	for range r.upTo(most) {
		list = append(list, part())
	}
	return list
}

// upTo: the number that comes next; one above most goes wrong, so that nobody asks for as many parts as can't be.
func (r reader) upTo(most uint32) int {
	n := r.Num()
	if n > most {
		r.Spoil()
		return 0
	}
	return int(n)
}

// ref: the ref that comes next.
func (r reader) ref() api.Ref {
	var x api.Ref
	x.Name = r.Text(api.MaxName)
	x.Id = r.Take(api.IdSize)
	x.Height = r.upTo(api.MaxHeight)
	return x
}

// node: the number of a node that comes next.
func (r reader) node() int { return r.upTo(api.MaxNodes) }

// cover: the token that comes next among Covers, where the tomb tells the Id.
func (r reader) cover() api.Token {
	var t api.Token
	t.Node = r.node()
	t.N = r.upTo(maxN)
	return t
}

// token: the token that comes next.
func (r reader) token() api.Token {
	t := r.cover()
	t.Id = r.Take(api.IdSize)
	return t
}

// tomb: the tomb that comes next.
func (r reader) tomb() api.Tomb {
	t := r.token()
	covers := read(r, api.MaxTokens, r.cover)
	for k := range covers {
		covers[k].Id = t.Id
	}
	acks := read(r, api.MaxNodes, r.node)
	return api.Tomb{Node: t.Node, N: t.N, Id: t.Id, Covers: covers, Acks: acks}
}
