package happens_test

import (
	"math/rand"
	"reflect"
	"slices"
	"testing"

	"chanfabric/api"
	"chanfabric/happens"
)

// The second reading of the rules has no clocks: an item happens before another one if a path leads there, from each item to the next one of its thread, and from what was last stored to a word to what learns from it.

// learns and leaves are about the word of an item.
func learns(i api.Item) bool {
	return i.Access.Kind == api.Load || i.Access.Kind == api.Cas || i.Access.Kind == api.Wait
}

func leaves(i api.Item) bool {
	return i.Access.Kind == api.Store || i.Access.Kind == api.Cas && i.Ok
}

// sources returns the items from which an edge leads to item b.
func sources(l []api.Item, b int) []int {
	var found []int
	for a := b - 1; a >= 0; a-- {
		if l[a].Thread == l[b].Thread {
			found = append(found, a)
			break
		}
	}
	for a := b - 1; a >= 0 && learns(l[b]); a-- {
		if leaves(l[a]) && l[a].Access.Address == l[b].Access.Address {
			return append(found, a)
		}
	}
	return found
}

// paths returns for each item which items it is or are on a path to it.
func paths(l []api.Item) [][]bool {
	reached := make([][]bool, len(l))
	for b := range l {
		reached[b] = make([]bool, len(l))
		reached[b][b] = true
		for _, a := range sources(l, b) {
			for n, yes := range reached[a] {
				reached[b][n] = reached[b][n] || yes
			}
		}
	}
	return reached
}

// inConflict is a second reading of the rules of trace.Conflict, for addresses from 0 on that are less than 1 << 40.
func inConflict(a, b api.Item) bool {
	isWord := func(i api.Item) bool { return i.Access.Kind == api.Read || i.Access.Kind == api.Write }
	isList := func(i api.Item) bool {
		return i.Access.Kind == api.List || i.Access.Kind == api.Add || i.Access.Kind == api.Drop
	}
	changes := func(i api.Item) bool {
		return isWord(i) && i.Access.Kind != api.Read || isList(i) && i.Access.Kind != api.List
	}
	same := isWord(a) && isWord(b) || isList(a) && isList(b)
	return same && a.Access.Address == b.Access.Address && a.Thread != b.Thread && (changes(a) || changes(b))
}

// expectByPaths expects that all results agree with the second reading.
func expectByPaths(t *testing.T, l []api.Item, threads int) {
	t.Helper()
	reached := paths(l)
	clocks := make([][]int, len(l))
	var races [][2]int
	for b := range l {
		clocks[b] = make([]int, threads)
		for a, yes := range reached[b] {
			if yes {
				clocks[b][l[a].Thread]++
			}
		}
	}
	for a := range l {
		for b := range l {
			if before := a < b && reached[b][a]; happens.Before(l, threads, a, b) != before {
				t.Fatalf("Before of %d and %d is %v in %+v", a, b, !before, l)
			}
			if a < b && !reached[b][a] && inConflict(l[a], l[b]) {
				races = append(races, [2]int{a, b})
			}
		}
	}
	if got := happens.Clocks(l, threads); !(len(got) == 0 && len(l) == 0) && !reflect.DeepEqual(got, clocks) {
		t.Fatalf("the clocks are %v, expected %v, of %+v", got, clocks, l)
	}
	if got := happens.Races(l, threads); !slices.Equal(got, races) {
		t.Fatalf("the races are %v, expected %v, of %+v", got, races, l)
	}
}

// everyList calls f for all lists of n items from an alphabet, in which the threads begin in order.
func everyList(alphabet []api.Item, n int, f func(l []api.Item)) {
	var grow func(l []api.Item, threads int)
	grow = func(l []api.Item, threads int) {
		if len(l) == n {
			f(l)
			return
		}
		for _, i := range alphabet {
			if i.Thread <= threads {
				grow(append(l, i), max(threads, i.Thread+1))
			}
		}
	}
	grow(nil, 0)
}

func TestP18_1To3AllShortLists(t *testing.T) {
	var small, large []api.Item
	for thread := range 3 {
		small = append(small, load(thread, 0), store(thread, 0), won(thread, 0), read(thread, 5), write(thread, 5))
		large = append(large, load(thread, 0), store(thread, 0), won(thread, 0), lost(thread, 0), wait(thread, 1), store(thread, 1),
			read(thread, 0), write(thread, 0), list(thread, 0), add(thread, 0), drop(thread, 1), item(thread, 0, 0))
	}
	lists := 0
	check := func(l []api.Item) {
		lists++
		expectByPaths(t, l, 3)
	}
	for n := range 4 {
		everyList(large, n, check)
	}
	for n := 4; n <= 5; n++ {
		everyList(small, n, check)
	}
	t.Logf("%d lists", lists)
}

// randomItems returns n items of any kind by all threads, at a few addresses.
func randomItems(random *rand.Rand, threads, addresses, n int) []api.Item {
	l := make([]api.Item, n)
	for k := range l {
		l[k] = item(random.Intn(threads), random.Intn(11), random.Intn(addresses))
		l[k].Ok = random.Intn(2) == 0
		l[k].Value = random.Uint64()
	}
	return l
}

func TestP18_1To3RandomLists(t *testing.T) {
	random := rand.New(rand.NewSource(18))
	for range 1500 {
		threads := 1 + random.Intn(api.MaxThreads)
		expectByPaths(t, randomItems(random, threads, 1+random.Intn(6), random.Intn(50)), threads)
	}
}

func TestP18_4Consequences(t *testing.T) {
	random := rand.New(rand.NewSource(4))
	for range 300 {
		threads := 1 + random.Intn(api.MaxThreads)
		l := randomItems(random, threads, 3, random.Intn(30))
		before := func(a, b int) bool { return happens.Before(l, threads, a, b) }
		for a := range l {
			for b := range l {
				if l[a].Thread == l[b].Thread && before(a, b) != (a < b) {
					t.Fatalf("Before of %d and %d, of one thread, is wrong in %+v", a, b, l)
				}
				for c := range l {
					if before(a, b) && before(b, c) && !before(a, c) {
						t.Fatalf("%d, %d and %d are not transitive in %+v", a, b, c, l)
					}
				}
			}
		}
		expectBeginnings(t, l, threads)
	}
}

// expectBeginnings expects that the clocks of each beginning of a list are the beginning of its clocks.
func expectBeginnings(t *testing.T, l []api.Item, threads int) {
	t.Helper()
	clocks := happens.Clocks(l, threads)
	if len(clocks) != len(l) {
		t.Fatalf("%d clocks of %d items", len(clocks), len(l))
	}
	for n := range len(l) + 1 {
		if got := happens.Clocks(l[:n], threads); !slices.EqualFunc(got, clocks[:n], slices.Equal[[]int]) {
			t.Fatalf("the clocks of the first %d of %+v are %v", n, l, got)
		}
	}
}

func TestP18_4LoadsLearnFromTheLastStore(t *testing.T) {
	random := rand.New(rand.NewSource(44))
	for range 2000 {
		l := randomItems(random, 4, 3, 30)
		last := map[int]int{}
		for n, i := range l {
			if a, ok := last[i.Access.Address]; ok && i.Access.Kind == api.Load && !happens.Before(l, 4, a, n) {
				t.Fatalf("the Load %d does not have the Store %d before it in %+v", n, a, l)
			}
			if i.Access.Kind == api.Store {
				last[i.Access.Address] = n
			}
		}
	}
}
