package order_test

import (
	"bytes"
	"fmt"
	"slices"
	"strings"
	"testing"

	"reliquary/api"
	"reliquary/order"
)

// standsAbove, plainBest, plainMet, plainHeight, plainLog, plainAbove and plainBase are the chapter's own words, found by trying, which will do for short lists.
func standsAbove(a, b api.Fact) bool {
	return a.Height > b.Height || a.Height == b.Height && bytes.Compare([]byte(a.Id), []byte(b.Id)) > 0
}

func plainBest(list []api.Fact) (api.Fact, bool) {
	for _, x := range list {
		if !slices.ContainsFunc(list, func(other api.Fact) bool { return standsAbove(other, x) }) {
			return x, true
		}
	}
	return api.Fact{}, false
}

// factOf: the first fact with an Id.
func factOf(list []api.Fact, id string) (api.Fact, bool) {
	for _, x := range list {
		if x.Id == id {
			return x, true
		}
	}
	return api.Fact{}, false
}

// plainMet: some Ids, and the parents of those that facts have, and so on till none is new.
func plainMet(list []api.Fact, from []string) []string {
	met := slices.Clone(from)
	for grown := true; grown; {
		grown = false
		for _, x := range list {
			if !slices.Contains(met, x.Id) {
				continue
			}
			for _, id := range x.Parents {
				if !slices.Contains(met, id) {
					met = append(met, id)
					grown = true
				}
			}
		}
	}
	return met
}

func plainHeight(list []api.Fact, parents []string) int {
	n := 0
	for at, id := range parents {
		x, _ := factOf(list, id)
		if at == 0 || x.Height+1 > n {
			n = x.Height + 1
		}
	}
	return n
}

func plainLog(list []api.Fact, from string) ([]string, api.Errno) {
	for at, x := range list {
		if _, twice := factOf(list[:at], x.Id); twice {
			return nil, api.ErrTwice
		}
	}
	if _, ok := factOf(list, from); !ok {
		return nil, api.ErrNone
	}
	var met []api.Fact
	for _, id := range plainMet(list, []string{from}) {
		x, ok := factOf(list, id)
		if !ok {
			return nil, api.ErrOpen
		}
		met = append(met, x)
	}
	for _, x := range met {
		if x.Height != plainHeight(list, x.Parents) {
			return nil, api.ErrOrder
		}
	}
	var ids []string
	for len(met) > 0 {
		best, _ := plainBest(met)
		ids = append(ids, best.Id)
		met = slices.DeleteFunc(met, func(x api.Fact) bool { return x.Id == best.Id })
	}
	return ids, api.OK
}

func plainAbove(list []api.Fact, from, old string) (bool, api.Errno) {
	if _, code := plainLog(list, from); code != api.OK {
		return false, code
	}
	x, _ := factOf(list, from)
	return slices.Contains(plainMet(list, x.Parents), old), api.OK
}

func plainBase(list []api.Fact, a, b string) (string, api.Errno) {
	one, code := plainLog(list, a)
	if code != api.OK {
		return "", code
	}
	other, code := plainLog(list, b)
	if code != api.OK {
		return "", code
	}
	for _, id := range one {
		if slices.Contains(other, id) {
			return id, api.OK
		}
	}
	return "", api.OK
}

// fact: a commit with parents, their Ids between spaces.
func fact(id string, height int, parents string) api.Fact {
	return api.Fact{Id: id, Height: height, Parents: strings.Fields(parents)}
}

// facts: commits of a text, each as "id:height:parent,parent".
func facts(text string) []api.Fact {
	var list []api.Fact
	for _, word := range strings.Fields(text) {
		part := strings.Split(word, ":")
		var height int
		fmt.Sscan(part[1], &height)
		list = append(list, fact(part[0], height, strings.ReplaceAll(part[2], ",", " ")))
	}
	return list
}

// copied: a list with memory of its own, its Parents too.
func copied(list []api.Fact) []api.Fact {
	out := slices.Clone(list)
	for at := range out {
		out[at].Parents = slices.Clone(out[at].Parents)
	}
	return out
}

func sameFact(a, b api.Fact) bool {
	return a.Id == b.Id && a.Height == b.Height && slices.Equal(a.Parents, b.Parents)
}

// roomy: a copy of a list with spare room that isn't empty, behind its Parents too, and how to tell whether all of it is as it was.
func roomy(list []api.Fact) ([]api.Fact, func() bool) {
	whole := append(copied(list), fact("spare", 7, "room"))
	var rooms [][]string
	for at := range whole {
		room := append(slices.Clone(whole[at].Parents), "spare", "room")
		whole[at].Parents = room[:len(room)-2]
		rooms = append(rooms, room)
	}
	facts, parents := copied(whole), make([][]string, len(rooms))
	for at := range rooms {
		parents[at] = slices.Clone(rooms[at])
	}
	return whole[:len(list)], func() bool {
		return slices.EqualFunc(whole, facts, sameFact) && slices.EqualFunc(rooms, parents, slices.Equal[[]string])
	}
}

// stay checks that what was handed in is as it was.
func stay(t *testing.T, what string, stayed func() bool) {
	t.Helper()
	if !stayed() {
		t.Fatalf("%s changed what was handed in", what)
	}
}

// show: facts, each with its Id, Height and Parents.
func show(list ...api.Fact) string {
	var b strings.Builder
	for _, x := range list {
		fmt.Fprintf(&b, "{%q %d %q}", x.Id, x.Height, x.Parents)
	}
	return b.String()
}

// compareIs checks what Compare answers, turned round too.
func compareIs(t *testing.T, a, b api.Fact, want int) {
	t.Helper()
	if got := order.Compare(a, b); got != want {
		t.Errorf("Compare(%s, %s): %d, not %d", show(a), show(b), got, want)
	}
	if got := order.Compare(b, a); got != -want {
		t.Errorf("Compare(%s, %s): %d, not %d", show(b), show(a), got, -want)
	}
}

// bestIs checks what Best answers.
func bestIs(t *testing.T, list []api.Fact, want api.Fact, ok bool) {
	t.Helper()
	handed, stayed := roomy(list)
	got, is := order.Best(handed)
	if is != ok || !sameFact(got, want) {
		t.Fatalf("Best(%s): %s, %v; not %s, %v", show(list...), show(got), is, show(want), ok)
	}
	stay(t, "Best", stayed)
}

// bestFits checks it against the chapter's words.
func bestFits(t *testing.T, list []api.Fact) {
	t.Helper()
	want, ok := plainBest(list)
	bestIs(t, list, want, ok)
}

// logIs checks what Log answers, and P11.4 of it.
func logIs(t *testing.T, list []api.Fact, from string, want []string, code api.Errno) {
	t.Helper()
	handed, stayed := roomy(list)
	got, e := order.Log(handed, from)
	if e != code || !slices.Equal(got, want) {
		t.Fatalf("Log(%s, %q): %q, %d; not %q, %d", show(list...), from, got, e, want, code)
	}
	stay(t, "Log", stayed)
	for at, id := range got {
		standsAlone(t, list, got, at)
		x, _ := factOf(list, id)
		for _, old := range plainMet(list, x.Parents) {
			y, _ := factOf(list, old)
			if !slices.Contains(got[at+1:], old) || order.Compare(y, x) != -1 || order.Compare(x, y) != 1 {
				t.Fatalf("Log(%s, %q): %q came from %q, and doesn't stand above it: %q", show(list...), from, id, old, got)
			}
		}
	}
}

// standsAlone checks that no other commit of a log stands as one of it does.
func standsAlone(t *testing.T, list []api.Fact, log []string, at int) {
	t.Helper()
	x, _ := factOf(list, log[at])
	for k, id := range log {
		if y, _ := factOf(list, id); k != at && order.Compare(x, y) == 0 {
			t.Fatalf("%s and %s stand alike", show(x), show(y))
		}
	}
}

// aboveIs checks what Above answers.
func aboveIs(t *testing.T, list []api.Fact, from, old string, want bool, code api.Errno) {
	t.Helper()
	handed, stayed := roomy(list)
	if got, e := order.Above(handed, from, old); got != want || e != code {
		t.Fatalf("Above(%s, %q, %q): %v, %d; not %v, %d", show(list...), from, old, got, e, want, code)
	}
	stay(t, "Above", stayed)
}

// baseIs checks what Base answers.
func baseIs(t *testing.T, list []api.Fact, a, b, want string, code api.Errno) {
	t.Helper()
	handed, stayed := roomy(list)
	if got, e := order.Base(handed, a, b); got != want || e != code {
		t.Fatalf("Base(%s, %q, %q): %q, %d; not %q, %d", show(list...), a, b, got, e, want, code)
	}
	stay(t, "Base", stayed)
}

// allFit checks all that can be asked of a list, with its Ids and others, against the chapter's words.
func allFit(t *testing.T, list []api.Fact, others ...string) {
	t.Helper()
	bestFits(t, list)
	ids := others
	for _, x := range list {
		if !slices.Contains(ids, x.Id) {
			ids = append(slices.Clone(ids), x.Id)
		}
	}
	for _, a := range ids {
		log, code := plainLog(list, a)
		logIs(t, list, a, log, code)
		for _, b := range ids {
			above, code := plainAbove(list, a, b)
			aboveIs(t, list, a, b, above, code)
			base, code := plainBase(list, a, b)
			baseIs(t, list, a, b, base, code)
		}
	}
}

// inAllOrders gives a list in each order that it can have.
func inAllOrders(list []api.Fact, give func([]api.Fact)) {
	if len(list) == 0 {
		give(nil)
		return
	}
	for at := range list {
		first := list[at : at+1]
		inAllOrders(slices.Concat(list[:at], list[at+1:]), func(rest []api.Fact) { give(slices.Concat(first, rest)) })
	}
}
