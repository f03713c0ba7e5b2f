package graph

import (
	"slices"

	"reliquary/shelf"
)

// Below, nodes are told by their places in a rising list of keys, so that the least key has the least place, and what is known of each node is found at once.

// among: for each of keys, which rise, the places of those of them that it points to.
func (g *Graph[K]) among(keys []K) [][]int {
	to := make([][]int, len(keys))
	for place, k := range keys {
		for x := range g.targets(k).All() {
			if at, ok := slices.BinarySearch(keys, x); ok {
				to[place] = append(to[place], at)
			}
		}
	}
	return to
}

// turned: which places point to each, if it is known to which ones each points.
func turned(to [][]int) [][]int {
	from := make([][]int, len(to))
	for place, list := range to {
		for _, x := range list {
			from[x] = append(from[x], place)
		}
	}
	return from
}

// settled: places, each behind all that it points to, always the least that can be next; and whether these are all. Those on a ring are never settled, nor those from which one is met.
func settled(to [][]int) (order []int, whole bool) {
	from := turned(to)
	waits := make([]int, len(to)) // to how many that aren't settled each points
	ready := shelf.Of[int]()
	for place, list := range to {
		waits[place] = len(list)
		if len(list) == 0 {
			ready.Add(place)
		}
	}
	for next, ok := ready.At(0); ok; next, ok = ready.At(0) {
		ready.Del(next)
		order = append(order, next)
		for _, place := range from[next] {
			waits[place]--
			if waits[place] == 0 {
				ready.Add(place)
			}
		}
	}
	return order, len(order) == len(to)
}

// heights: how long the longest way from each place is, if all are settled in this order.
func heights(to [][]int, order []int) []int {
	list := make([]int, len(to))
	for _, place := range order {
		for _, x := range to[place] {
			list[place] = max(list[place], list[x]+1)
		}
	}
	return list
}
