package mark

import (
	"cmp"

	"reliquary/api"
	"reliquary/ident"
	"reliquary/path"
)

const maxN = 1 << 30 // the greatest number of a thing that a node lays down

// Good: whether marks can be.
func Good(m api.Marks) bool {
	return right(m.Refs, api.MaxRefs, goodRef, compareRefs) &&
		right(m.Tokens, api.MaxTokens, goodToken, compareTokens) &&
		right(m.Tombs, api.MaxTombs, goodTomb, compareTombs)
}

// right: whether a list isn't too long, each of its elements can be, and they rise.
func right[T any](list []T, most int, good func(T) bool, compare func(a, b T) int) bool {
	if len(list) > most {
		return false
	}
	for k, x := range list {
		if !good(x) || k > 0 && compare(list[k-1], x) >= 0 {
			return false
		}
	}
	return true
}

// goodRef: whether a ref can be, whatever stands beside it.
func goodRef(r api.Ref) bool {
	return path.Good(r.Name) && ident.Good(r.Id) && r.Height >= 0 && r.Height <= api.MaxHeight
}

// goodNode: whether a number is a node's.
func goodNode(node int) bool { return node >= 1 && node <= api.MaxNodes }

// goodToken: whether a token can be, whatever stands beside it.
func goodToken(t api.Token) bool {
	return goodNode(t.Node) && t.N >= 1 && t.N <= maxN && ident.Good(t.Id)
}

// goodTomb: whether a tomb can be, whatever stands beside it.
func goodTomb(t api.Tomb) bool {
	goodCover := func(c api.Token) bool { return c.Id == t.Id && goodToken(c) }
	return goodToken(head(t)) &&
		right(t.Covers, api.MaxTokens, goodCover, compareTokens) &&
		right(t.Acks, api.MaxNodes, goodNode, cmp.Compare[int])
}

// head: what a tomb has as a token has it.
func head(t api.Tomb) api.Token { return api.Token{Node: t.Node, N: t.N, Id: t.Id} }

// compareRefs: -1, 0, 1 as two refs stand by their Names.
func compareRefs(a, b api.Ref) int { return cmp.Compare(a.Name, b.Name) }

// compareTokens: -1, 0, 1 as two tokens stand. Ids play no part, since a node lays down one thing of a number.
func compareTokens(a, b api.Token) int {
	return cmp.Or(cmp.Compare(a.Node, b.Node), cmp.Compare(a.N, b.N))
}

// compareTombs: -1, 0, 1 as two tombs stand.
func compareTombs(a, b api.Tomb) int { return compareTokens(head(a), head(b)) }
