package happens_test

import (
	"fmt"
	"math"
	"reflect"
	"slices"
	"testing"

	"chanfabric/api"
	"chanfabric/happens"
)

// Kinds that are no kinds of accesses.
var noKinds = []int{0, -1, 10, 11, 1 << 32, 1<<32 + api.Store, math.MinInt, math.MaxInt}

// Thread numbers and numbers of threads that are not expected.
var noThreads = []int{math.MinInt, -9, -1, 0, api.MaxThreads + 1, 1 << 32, math.MaxInt}

// item returns an item. Its Ok says nothing, except that of a Cas.
func item(thread, kind, address int) api.Item {
	return api.Item{Thread: thread, Access: api.Access{Kind: kind, Address: address, New: 1}, Value: 1}
}

func load(thread, address int) api.Item  { return item(thread, api.Load, address) }
func store(thread, address int) api.Item { return item(thread, api.Store, address) }
func wait(thread, address int) api.Item  { return item(thread, api.Wait, address) }
func read(thread, address int) api.Item  { return item(thread, api.Read, address) }
func write(thread, address int) api.Item { return item(thread, api.Write, address) }
func list(thread, address int) api.Item  { return item(thread, api.List, address) }
func add(thread, address int) api.Item   { return item(thread, api.Add, address) }
func drop(thread, address int) api.Item  { return item(thread, api.Drop, address) }

// won returns a Cas that is Ok, and lost one that is not.
func won(thread, address int) api.Item {
	i := item(thread, api.Cas, address)
	i.Ok = true
	return i
}

func lost(thread, address int) api.Item { return item(thread, api.Cas, address) }

// okay returns an item with Ok true.
func okay(i api.Item) api.Item {
	i.Ok = true
	return i
}

func TestP18_1Clocks(t *testing.T) {
	for n, c := range []struct {
		threads int
		l       []api.Item
		want    [][]int
	}{
		{1, nil, nil},
		{8, []api.Item{}, nil},
		{1, []api.Item{load(0, 0)}, [][]int{{1}}},
		{1, []api.Item{store(0, 0), load(0, 0), won(0, 0), read(0, 0)}, [][]int{{1}, {2}, {3}, {4}}},
		// As many numbers as there are threads, also of those without items.
		{3, []api.Item{store(1, 0)}, [][]int{{0, 1, 0}}},
		{8, []api.Item{read(7, 0), read(7, 0)}, [][]int{{0, 0, 0, 0, 0, 0, 0, 1}, {0, 0, 0, 0, 0, 0, 0, 2}}},
		// Nothing is learned from a word to which nothing was stored.
		{2, []api.Item{load(0, 0), load(1, 0), wait(0, 0), lost(1, 0)}, [][]int{{1, 0}, {0, 1}, {2, 0}, {0, 2}}},
		// What a Store leaves is learned by a Load, a Wait, and a Cas with and without Ok.
		{2, []api.Item{read(0, 5), store(0, 0), load(1, 0)}, [][]int{{1, 0}, {2, 0}, {2, 1}}},
		{2, []api.Item{read(0, 5), store(0, 0), wait(1, 0)}, [][]int{{1, 0}, {2, 0}, {2, 1}}},
		{2, []api.Item{read(0, 5), store(0, 0), won(1, 0)}, [][]int{{1, 0}, {2, 0}, {2, 1}}},
		{2, []api.Item{read(0, 5), store(0, 0), lost(1, 0)}, [][]int{{1, 0}, {2, 0}, {2, 1}}},
		// A Store learns nothing, nor does a plain access.
		{2, []api.Item{store(0, 0), store(1, 0)}, [][]int{{1, 0}, {0, 1}}},
		{2, []api.Item{store(0, 0), read(1, 0), write(1, 0)}, [][]int{{1, 0}, {0, 1}, {0, 2}}},
		{2, []api.Item{store(0, 0), list(1, 0), add(1, 0), drop(1, 0)}, [][]int{{1, 0}, {0, 1}, {0, 2}, {0, 3}}},
		// A Cas leaves something only if it is Ok, and a Load and a Wait never do.
		{2, []api.Item{won(0, 0), load(1, 0)}, [][]int{{1, 0}, {1, 1}}},
		{2, []api.Item{lost(0, 0), load(1, 0)}, [][]int{{1, 0}, {0, 1}}},
		{2, []api.Item{load(0, 0), load(1, 0)}, [][]int{{1, 0}, {0, 1}}},
		{2, []api.Item{okay(load(0, 0)), okay(wait(0, 0)), load(1, 0)}, [][]int{{1, 0}, {2, 0}, {0, 1}}},
		// The Ok of other items says nothing.
		{2, []api.Item{okay(store(0, 0)), okay(load(1, 0)), okay(store(1, 0)), okay(wait(0, 0))}, [][]int{{1, 0}, {1, 1}, {1, 2}, {2, 2}}},
		// Plain accesses leave nothing.
		{2, []api.Item{okay(write(0, 0)), okay(add(0, 0)), drop(0, 0), load(1, 0)}, [][]int{{1, 0}, {2, 0}, {3, 0}, {0, 1}}},
		// Another word.
		{2, []api.Item{store(0, 0), load(1, 1)}, [][]int{{1, 0}, {0, 1}}},
		// A Store forgets what was stored before; a Cas passes it on.
		{3, []api.Item{store(0, 0), store(1, 0), load(2, 0)}, [][]int{{1, 0, 0}, {0, 1, 0}, {0, 1, 1}}},
		{3, []api.Item{store(0, 0), won(1, 0), load(2, 0)}, [][]int{{1, 0, 0}, {1, 1, 0}, {1, 1, 1}}},
		{3, []api.Item{store(0, 0), lost(1, 0), load(2, 0)}, [][]int{{1, 0, 0}, {1, 1, 0}, {1, 0, 1}}},
		// The word has what the thread knew then, and keeps it.
		{2, []api.Item{store(0, 0), read(0, 5), load(1, 0), store(0, 0), load(1, 0)}, [][]int{{1, 0}, {2, 0}, {1, 1}, {3, 0}, {3, 2}}},
		{3, []api.Item{store(0, 0), load(1, 0), read(1, 5), load(2, 0)}, [][]int{{1, 0, 0}, {1, 1, 0}, {1, 2, 0}, {1, 0, 1}}},
		// Knowledge is passed on over several words, and nothing is forgotten.
		{3, []api.Item{store(0, 0), load(1, 0), store(1, 1), load(2, 1)}, [][]int{{1, 0, 0}, {1, 1, 0}, {1, 2, 0}, {1, 2, 1}}},
		{3, []api.Item{store(0, 0), read(1, 5), read(1, 5), store(1, 1), load(2, 0), load(2, 1), load(2, 0)}, [][]int{
			{1, 0, 0}, {0, 1, 0}, {0, 2, 0}, {0, 3, 0}, {1, 0, 1}, {1, 3, 2}, {1, 3, 3}}},
		// The maximum is that of each element.
		{2, []api.Item{store(0, 0), store(1, 1), load(0, 1), load(1, 0)}, [][]int{{1, 0}, {0, 1}, {2, 1}, {1, 2}}},
		{2, []api.Item{store(0, 0), load(0, 0), load(0, 0)}, [][]int{{1, 0}, {2, 0}, {3, 0}}},
	} {
		got := happens.Clocks(c.l, c.threads)
		if !slices.EqualFunc(got, c.want, slices.Equal[[]int]) {
			t.Errorf("case %d: Clocks(%+v, %d) = %v, expected %v", n, c.l, c.threads, got, c.want)
		}
	}
}

func TestP18_1AnyWord(t *testing.T) {
	addresses := []int{0, 1, 383, 1 << 32, 1<<40 - 1, 1 << 40, math.MaxInt, -1, -2, -1 << 40, math.MinInt}
	for _, from := range addresses {
		for _, to := range addresses {
			want := [][]int{{1, 0}, {0, 1}}
			if from == to {
				want = [][]int{{1, 0}, {1, 1}}
			}
			for _, l := range [][]api.Item{{store(0, from), load(1, to)}, {won(0, from), wait(1, to)}, {store(0, from), lost(1, to)}} {
				if got := happens.Clocks(l, 2); !reflect.DeepEqual(got, want) {
					t.Errorf("the clocks of %+v are %v", l, got)
				}
			}
		}
	}
}

func TestP18_1OtherKinds(t *testing.T) {
	for _, kind := range noKinds {
		for _, i := range []api.Item{item(0, kind, 3), okay(item(0, kind, 3))} {
			l := []api.Item{i, load(1, 3), store(1, 3), i}
			want := [][]int{{1, 0}, {0, 1}, {0, 2}, {2, 0}}
			if got := happens.Clocks(l, 2); !reflect.DeepEqual(got, want) {
				t.Errorf("the clocks of %+v are %v", l, got)
			}
		}
	}
}

func TestP18_2Before(t *testing.T) {
	message := []api.Item{write(0, 3), store(0, 0), load(1, 0), read(1, 3)}
	chain := []api.Item{read(0, 9), store(0, 0), won(1, 0), lost(2, 0), read(2, 9), load(0, 0)}
	for n, c := range []struct {
		l    []api.Item
		a, b int
		want bool
	}{
		{message, 0, 1, true},
		{message, 0, 2, true},
		{message, 0, 3, true},
		{message, 1, 2, true},
		{message, 1, 3, true},
		{message, 2, 3, true},
		{[]api.Item{write(0, 3), load(1, 0), read(1, 3)}, 0, 1, false},
		{[]api.Item{write(0, 3), load(1, 0), read(1, 3)}, 0, 2, false},
		// A thread does not learn what another one does behind its Store, or before the thread looks.
		{[]api.Item{store(0, 0), write(0, 3), load(1, 0)}, 0, 2, true},
		{[]api.Item{store(0, 0), write(0, 3), load(1, 0)}, 1, 2, false},
		{[]api.Item{store(0, 0), read(1, 3), load(1, 0)}, 0, 1, false},
		{[]api.Item{store(0, 0), read(1, 3), load(1, 0)}, 0, 2, true},
		{[]api.Item{store(0, 0), store(1, 0)}, 0, 1, false},
		{[]api.Item{store(0, 0), store(1, 0), load(2, 0)}, 0, 2, false},
		{[]api.Item{store(0, 0), store(1, 0), load(2, 0)}, 1, 2, true},
		{chain, 0, 2, true},
		{chain, 1, 2, true},
		{chain, 1, 3, true},
		{chain, 2, 3, true},
		{chain, 2, 4, true},
		{chain, 0, 4, true},
		{chain, 2, 5, true},
		// The Cas of thread 2 was not Ok.
		{chain, 3, 5, false},
		{chain, 4, 5, false},
		// One thread, whatever the items are.
		{[]api.Item{read(2, 0), write(2, 1)}, 0, 1, true},
		{[]api.Item{item(2, 0, -1), load(1, 0), item(2, 10, 5)}, 0, 2, true},
		{[]api.Item{item(2, 0, -1), load(1, 0), item(2, 10, 5)}, 0, 1, false},
		{[]api.Item{item(2, 0, -1), load(1, 0), item(2, 10, 5)}, 1, 2, false},
	} {
		if got := happens.Before(c.l, 3, c.a, c.b); got != c.want {
			t.Errorf("case %d: Before(%+v, 3, %d, %d) = %v", n, c.l, c.a, c.b, got)
		}
	}
}

func TestP18_2Indexes(t *testing.T) {
	l := []api.Item{write(0, 3), store(0, 0), load(0, 0)}
	indexes := []int{math.MinInt, -3, -1, 0, 1, 2, 3, 4, 1 << 32, math.MaxInt}
	for _, a := range indexes {
		for _, b := range indexes {
			want := 0 <= a && a < b && b <= 2
			if got := happens.Before(l, 1, a, b); got != want {
				t.Errorf("Before of %d and %d is %v", a, b, got)
			}
			if happens.Before(nil, 1, a, b) {
				t.Errorf("Before of %d and %d is true in an empty list", a, b)
			}
		}
	}
}

func TestP18_3Races(t *testing.T) {
	for n, c := range []struct {
		l    []api.Item
		want [][2]int
	}{
		{nil, nil},
		{[]api.Item{}, nil},
		{[]api.Item{write(0, 3)}, nil},
		// The examples of the chapter.
		{[]api.Item{write(0, 3), store(0, 0), load(1, 0), read(1, 3)}, nil},
		{[]api.Item{write(0, 3), read(1, 3)}, [][2]int{{0, 1}}},
		{[]api.Item{write(0, 3), store(0, 0), read(1, 3)}, [][2]int{{0, 2}}},
		{[]api.Item{write(0, 3), load(1, 0), read(1, 3)}, [][2]int{{0, 2}}},
		// What is in conflict, and what is not.
		{[]api.Item{read(0, 3), write(1, 3)}, [][2]int{{0, 1}}},
		{[]api.Item{write(0, 3), write(1, 3)}, [][2]int{{0, 1}}},
		{[]api.Item{read(0, 3), read(1, 3)}, nil},
		{[]api.Item{write(0, 3), write(0, 3), read(0, 3)}, nil},
		{[]api.Item{write(0, 3), read(1, 4)}, nil},
		{[]api.Item{add(0, 3), list(1, 3)}, [][2]int{{0, 1}}},
		{[]api.Item{list(0, 3), drop(1, 3)}, [][2]int{{0, 1}}},
		{[]api.Item{add(0, 3), drop(1, 3)}, [][2]int{{0, 1}}},
		{[]api.Item{list(0, 3), list(1, 3)}, nil},
		{[]api.Item{add(0, 3), write(1, 3), read(1, 3)}, nil},
		{[]api.Item{store(0, 3), write(1, 3)}, nil},
		{[]api.Item{write(0, 3), load(1, 3), won(1, 3), lost(1, 3), wait(1, 3)}, nil},
		{[]api.Item{store(0, 3), store(1, 3), won(2, 3)}, nil},
		{[]api.Item{item(0, 0, 3), item(1, 10, 3), write(2, 1<<40), item(1, 0, 3)}, nil},
		// Addresses below 0 are one place.
		{[]api.Item{write(0, -1), read(1, -2), add(2, math.MinInt)}, [][2]int{{0, 1}, {0, 2}, {1, 2}}},
		{[]api.Item{write(0, 1<<40), read(1, -2)}, [][2]int{{0, 1}}},
		// All pairs, in the order of the first index and then of the second.
		{[]api.Item{write(0, 3), write(1, 4), write(2, 3), write(2, 4), write(1, 3), write(0, 4)},
			[][2]int{{0, 2}, {0, 4}, {1, 3}, {1, 5}, {2, 4}, {3, 5}}},
		{[]api.Item{read(2, 3), read(0, 3), write(1, 3), read(0, 3), read(2, 3), write(2, 3), write(0, 3)},
			[][2]int{{0, 2}, {0, 6}, {1, 2}, {1, 5}, {2, 3}, {2, 4}, {2, 5}, {2, 6}, {3, 5}, {4, 6}, {5, 6}}},
		// Some items of a thread race, and later ones do not.
		{[]api.Item{write(0, 3), store(0, 0), read(1, 3), write(1, 3), load(1, 0), read(1, 3), write(1, 3)}, [][2]int{{0, 2}, {0, 3}}},
		{[]api.Item{write(0, 3), store(0, 0), write(2, 3), load(1, 0), read(1, 3)}, [][2]int{{0, 2}, {2, 4}}},
		{[]api.Item{store(0, 0), write(0, 3), load(1, 0), read(1, 3)}, [][2]int{{1, 3}}},
		// A Wait and a Cas learn from a Store as a Load does, and a second Store hides the first one.
		{[]api.Item{write(0, 3), store(0, 0), wait(1, 0), write(1, 3)}, nil},
		{[]api.Item{write(0, 3), store(0, 0), lost(1, 0), write(1, 3)}, nil},
		{[]api.Item{write(0, 3), won(0, 0), won(1, 0), write(1, 3), won(1, 0), load(2, 0), write(2, 3)}, nil},
		{[]api.Item{write(0, 3), store(0, 0), store(1, 0), load(2, 0), read(2, 3)}, [][2]int{{0, 4}}},
	} {
		if got := happens.Races(c.l, 3); !slices.Equal(got, c.want) {
			t.Errorf("case %d: Races(%+v) = %v, expected %v", n, c.l, got, c.want)
		}
	}
}

func TestUnexpectedThreads(t *testing.T) {
	l := []api.Item{write(0, 3), read(0, 3), write(0, 3)}
	for _, threads := range noThreads {
		expectNothing(t, l, threads)
		expectNothing(t, nil, threads)
	}
	for threads := 1; threads <= api.MaxThreads; threads++ {
		for _, thread := range append([]int{threads}, noThreads...) {
			if 0 <= thread && thread < threads {
				continue
			}
			for n := range l {
				changed := slices.Clone(l)
				changed[n].Thread = thread
				expectNothing(t, changed, threads)
			}
		}
	}
}

// expectNothing expects zero results.
func expectNothing(t *testing.T, l []api.Item, threads int) {
	t.Helper()
	clocks, races := happens.Clocks(l, threads), happens.Races(l, threads)
	if len(clocks) != 0 || len(races) != 0 || happens.Before(l, threads, 0, 1) {
		t.Errorf("%+v with %d threads: Clocks = %v, Races = %v", l, threads, clocks, races)
	}
}

func TestArgumentsAreNotModified(t *testing.T) {
	l := make([]api.Item, 6, 12)
	copy(l, []api.Item{write(0, 3), store(0, 0), read(1, 3), load(1, 0), write(2, 3), won(2, 0)})
	before := slices.Clone(l[:cap(l)])
	happens.Clocks(l, 3)
	happens.Races(l, 3)
	happens.Before(l, 3, 0, 3)
	happens.Clocks(l, 2)
	if !slices.Equal(l[:cap(l)], before) {
		t.Error("the items have changed")
	}
}

func TestEarlierResultsStay(t *testing.T) {
	l := []api.Item{write(0, 3), store(0, 0), read(1, 3), load(1, 0), write(1, 3)}
	clocks, races := happens.Clocks(l, 2), happens.Races(l, 2)
	happens.Clocks([]api.Item{read(1, 0), read(1, 0), read(1, 0)}, 2)
	happens.Races([]api.Item{write(1, 0), write(0, 0)}, 2)
	l[0], l[1] = read(1, 1), read(1, 1)
	if !reflect.DeepEqual(clocks, [][]int{{1, 0}, {2, 0}, {0, 1}, {2, 2}, {2, 3}}) || !slices.Equal(races, [][2]int{{0, 2}}) {
		t.Errorf("the clocks are %v now, the races %v", clocks, races)
	}
	// No two clocks share memory.
	for n := range clocks {
		clocks[n] = append(clocks[n], 7)
		clocks[n][0] = 9
	}
	if !reflect.DeepEqual(clocks, [][]int{{9, 0, 7}, {9, 0, 7}, {9, 1, 7}, {9, 2, 7}, {9, 3, 7}}) {
		t.Errorf("the clocks share memory: %v", clocks)
	}
}

func Example() {
	message := []api.Item{
		{Thread: 0, Access: api.Access{Kind: api.Write, Address: 3, New: 5}},
		{Thread: 0, Access: api.Access{Kind: api.Store, Address: 0, New: 1}},
		{Thread: 1, Access: api.Access{Kind: api.Load, Address: 0}, Value: 1},
		{Thread: 1, Access: api.Access{Kind: api.Read, Address: 3}, Value: 5},
	}
	fmt.Println(happens.Clocks(message, 2))
	fmt.Println(happens.Before(message, 2, 0, 3), happens.Races(message, 2))
	careless := []api.Item{message[0], message[3]}
	fmt.Println(happens.Before(careless, 2, 0, 1), happens.Races(careless, 2))
	// Output:
	// [[1 0] [2 0] [2 1] [2 2]]
	// true []
	// false [[0 1]]
}
