package happens

import (
	"chanfabric/api"
	"chanfabric/memory"
	"chanfabric/trace"
)

// A clock contains for each thread a number of its first items. That of a word to which nothing was stored is all zeros, which is what a map gives for it.
type clock [api.MaxThreads]int

// clocks returns the clock of its thread behind each item.
func clocks(l []api.Item) []clock {
	var threads [api.MaxThreads]clock
	words := map[int]clock{}
	behind := make([]clock, 0, len(l))
	for _, i := range l {
		c := &threads[i.Thread]
		c[i.Thread]++
		if memory.Atomic(i.Access.Kind) {
			synchronize(c, words, i)
		}
		behind = append(behind, *c)
	}
	return behind
}

// synchronize lets an atomic item by a thread with the clock c learn from its word what it reads, and leave there what it changes.
func synchronize(c *clock, words map[int]clock, i api.Item) {
	word := i.Access.Address
	if trace.Reads(i) {
		*c = c.join(words[word])
	}
	if trace.Changes(i) {
		words[word] = *c
	}
}

// join returns the maximum of two clocks, element by element.
func (c clock) join(other clock) clock {
	for t, n := range other {
		c[t] = max(c[t], n)
	}
	return c
}

// ordered reports whether item a happens before item b, which is behind it.
func ordered(l []api.Item, behind []clock, a, b int) bool {
	t := l[a].Thread
	return behind[b][t] >= behind[a][t]
}
