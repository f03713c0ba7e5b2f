package order

import (
	"maps"
	"slices"

	"reliquary/api"
	"reliquary/object"
)

// facts are commits by their Ids.
type facts map[string]api.Fact

// told: the facts of a list; ErrTwice.
func told(list []api.Fact) (facts, api.Errno) {
	f := make(facts, len(list))
	for _, x := range list {
		if f.has(x.Id) {
			return nil, api.ErrTwice
		}
		f[x.Id] = x
	}
	return f, api.OK
}

// history: of a list's facts a commit and all that it came from; ErrTwice, ErrNone, ErrOpen, ErrOrder. There are no rings in it: where all heights are right, each commit is higher than its parents.
func history(list []api.Fact, from string) (facts, api.Errno) {
	all, code := told(list)
	if code != api.OK {
		return nil, code
	}
	if all.lacks(from) {
		return nil, api.ErrNone
	}
	met := all.met(from)
	switch {
	case met.open():
		return nil, api.ErrOpen
	case !met.right():
		return nil, api.ErrOrder
	}
	return met, api.OK
}

// has: whether a commit is there.
func (f facts) has(id string) bool {
	_, ok := f[id]
	return ok
}

// lacks: whether a commit is not there.
func (f facts) lacks(id string) bool { return !f.has(id) }

// met: those that are met from one of them on by parents. Ids from which to go on wait in a list, since a way may have more of them than calls can be deep.
func (f facts) met(from string) facts {
	met := facts{from: f[from]}
	left := []string{from}
	for len(left) > 0 {
		x := f[left[len(left)-1]]
		left = left[:len(left)-1]
		for _, id := range x.Parents {
			if f.has(id) && met.lacks(id) {
				met[id] = f[id]
				left = append(left, id)
			}
		}
	}
	return met
}

// open: whether one of them has a parent that isn't there.
func (f facts) open() bool {
	for _, x := range f {
		if slices.ContainsFunc(x.Parents, f.lacks) {
			return true
		}
	}
	return false
}

// right: whether the height of each is right, if all their parents are there.
func (f facts) right() bool {
	for _, x := range f {
		if x.Height != f.height(x.Parents) {
			return false
		}
	}
	return true
}

// height: of a commit with these parents.
func (f facts) height(parents []string) int {
	var heights []int
	for _, id := range parents {
		heights = append(heights, f[id].Height)
	}
	return object.Height(heights)
}

// falling: their Ids, falling by how they stand.
func (f facts) falling() []string {
	var ids []string
	for _, x := range slices.SortedFunc(maps.Values(f), turned) {
		ids = append(ids, x.Id)
	}
	return ids
}

// turned: Compare, with those ahead that stand above.
func turned(a, b api.Fact) int { return Compare(b, a) }
