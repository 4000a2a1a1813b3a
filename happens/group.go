package happens

import (
	"chanfabric/api"
	"chanfabric/memory"
	"chanfabric/trace"
)

// A group has the items of a thread at a place that are not atomic: all of them, or only those that may change the place.
type group struct {
	place, thread int
	changing      bool
}

// groupsOf returns the indexes of the items in each group, in ascending order.
func groupsOf(l []api.Item) map[group][]int {
	groups := map[group][]int{}
	for n, i := range l {
		if memory.Atomic(i.Access.Kind) {
			continue
		}
		g := group{place: trace.Place(i), thread: i.Thread}
		groups[g] = append(groups[g], n)
		if trace.Changes(i) {
			g.changing = true
			groups[g] = append(groups[g], n)
		}
	}
	return groups
}
