package trace_test

import (
	"fmt"
	"math"
	"reflect"
	"slices"
	"testing"

	"chanfabric/api"
	"chanfabric/memory"
	"chanfabric/trace"
)

// nowhere is the place of what goes to no word and no list.
const nowhere = 1099511627776

// Kinds that are no kinds of accesses.
var noKinds = []int{0, -1, 10, 11, -9, 1 << 32, 1<<32 + api.Write, math.MinInt, math.MaxInt}

// item returns the item of an access that was Ok.
func item(thread, kind, address int) api.Item {
	return api.Item{Thread: thread, Access: api.Access{Kind: kind, Address: address, Old: 7, New: 8, Until: 9}, Value: 5, Ok: true}
}

// notOk returns the same item with Ok false.
func notOk(i api.Item) api.Item {
	i.Ok = false
	return i
}

// deepCopy returns a memory that shares nothing with m.
func deepCopy(m api.Memory) api.Memory {
	lists := slices.Clone(m.Lists)
	for i, list := range lists {
		lists[i] = slices.Clone(list)
	}
	return api.Memory{Words: slices.Clone(m.Words), Lists: lists, Tick: m.Tick}
}

// equal reports whether two memories are equal. A nil list and an empty one are.
func equal(a, b api.Memory) bool {
	return a.Tick == b.Tick && slices.Equal(a.Words, b.Words) && slices.EqualFunc(a.Lists, b.Lists, slices.Equal)
}

func TestP6_1Item(t *testing.T) {
	access := api.Access{Kind: api.Cas, Address: 4, Old: 1, New: math.MaxUint64, Until: -3}
	for _, c := range []struct {
		thread int
		access api.Access
		answer api.Answer
		want   api.Item
	}{
		{0, api.Access{}, api.Answer{}, api.Item{}},
		{3, access, api.Answer{Value: 1, Ok: true}, api.Item{Thread: 3, Access: access, Value: 1, Ok: true}},
		{3, access, api.Answer{Value: 2}, api.Item{Thread: 3, Access: access, Value: 2}},
		{0, access, api.Answer{Ok: true}, api.Item{Access: access, Ok: true}},
		{-1, access, api.Answer{}, api.Item{Thread: -1, Access: access}},
		{math.MinInt, api.Access{Kind: 77, Address: -5}, api.Answer{Value: math.MaxUint64}, api.Item{Thread: math.MinInt, Access: api.Access{Kind: 77, Address: -5}, Value: math.MaxUint64}},
		// Late and the list of an answer are not recorded.
		{math.MaxInt, api.Access{Kind: api.Wait, Until: 1}, api.Answer{Late: true}, api.Item{Thread: math.MaxInt, Access: api.Access{Kind: api.Wait, Until: 1}}},
		{1, api.Access{Kind: api.List, Address: 2}, api.Answer{List: []int{4, 5}}, api.Item{Thread: 1, Access: api.Access{Kind: api.List, Address: 2}}},
	} {
		if got := trace.Item(c.thread, c.access, c.answer); got != c.want {
			t.Errorf("Item(%d, %+v, %+v) = %+v, expected %+v", c.thread, c.access, c.answer, got, c.want)
		}
	}
}

func TestP6_1Place(t *testing.T) {
	words := []int{api.Load, api.Store, api.Cas, api.Wait, api.Read, api.Write}
	lists := []int{api.List, api.Add, api.Drop}
	for _, address := range []int{0, 1, 2, 15, 383, 1 << 32, nowhere - 1, nowhere, nowhere + 1, math.MaxInt - 1, math.MaxInt} {
		for _, kind := range words {
			if got := trace.Place(item(2, kind, address)); got != address {
				t.Errorf("the place of kind %d at %d is %d", kind, address, got)
			}
		}
		for _, kind := range lists {
			// The complement of a number n is -1 - n.
			if got := trace.Place(item(2, kind, address)); got != ^address {
				t.Errorf("the place of kind %d at %d is %d", kind, address, got)
			}
		}
		for _, kind := range noKinds {
			if got := trace.Place(item(2, kind, address)); got != nowhere {
				t.Errorf("the place of kind %d at %d is %d", kind, address, got)
			}
		}
	}
	for _, address := range []int{-1, -2, -16, -1 << 32, -nowhere, -1 - nowhere, math.MinInt + 1, math.MinInt} {
		for _, kind := range slices.Concat(words, lists, noKinds) {
			if got := trace.Place(item(2, kind, address)); got != nowhere {
				t.Errorf("the place of kind %d at %d is %d", kind, address, got)
			}
		}
	}
}

func TestP6_1PlaceExamples(t *testing.T) {
	for _, c := range []struct{ kind, address, want int }{
		{api.Load, 0, 0},
		{api.Write, 3, 3},
		{api.List, 0, -1},
		{api.Add, 1, -2},
		{api.Drop, 15, -16},
		{api.Add, math.MaxInt, math.MinInt},
		{0, 0, nowhere},
		{10, 3, nowhere},
		{api.Drop, -1, nowhere},
		{api.Store, -1, nowhere},
	} {
		// Only the kind and the address matter.
		for _, i := range []api.Item{item(0, c.kind, c.address), notOk(item(5, c.kind, c.address)), {Access: api.Access{Kind: c.kind, Address: c.address}}} {
			if got := trace.Place(i); got != c.want {
				t.Errorf("Place(%+v) = %d, expected %d", i, got, c.want)
			}
		}
	}
}

func TestP6_1ReadsAndChanges(t *testing.T) {
	for _, c := range []struct {
		kind                    int
		reads, changes, ifNotOk bool
	}{
		{api.Load, true, false, false},
		{api.Store, false, true, true},
		{api.Cas, true, true, false},
		{api.Wait, true, false, false},
		{api.Read, true, false, false},
		{api.Write, false, true, true},
		{api.List, true, false, false},
		{api.Add, true, true, true},
		{api.Drop, true, true, true},
	} {
		for _, address := range []int{0, 3, -1, math.MinInt, math.MaxInt} {
			i := item(1, c.kind, address)
			if trace.Reads(i) != c.reads || trace.Reads(notOk(i)) != c.reads {
				t.Errorf("Reads(%+v) = %v, not Ok: %v", i, trace.Reads(i), trace.Reads(notOk(i)))
			}
			if trace.Changes(i) != c.changes || trace.Changes(notOk(i)) != c.ifNotOk {
				t.Errorf("Changes(%+v) = %v, not Ok: %v", i, trace.Changes(i), trace.Changes(notOk(i)))
			}
		}
	}
	for _, kind := range noKinds {
		i := item(1, kind, 3)
		if trace.Reads(i) || trace.Reads(notOk(i)) || trace.Changes(i) || trace.Changes(notOk(i)) {
			t.Errorf("an item of kind %d reads or changes something", kind)
		}
	}
}

func TestP6_2Conflict(t *testing.T) {
	for _, c := range []struct {
		a, b api.Item
		want bool
	}{
		{item(0, api.Write, 3), item(1, api.Read, 3), true},
		{item(0, api.Write, 3), item(1, api.Write, 3), true},
		{item(0, api.Read, 3), item(1, api.Read, 3), false},
		{item(0, api.Add, 2), item(1, api.List, 2), true},
		{item(0, api.Add, 2), item(1, api.Drop, 2), true},
		{item(0, api.Add, 2), item(1, api.Add, 2), true},
		{item(0, api.Drop, 2), item(1, api.Drop, 2), true},
		{item(0, api.Drop, 2), item(1, api.List, 2), true},
		{item(0, api.List, 2), item(1, api.List, 2), false},
		// Plain accesses have no Ok, and change their place without it.
		{notOk(item(0, api.Write, 3)), notOk(item(1, api.Read, 3)), true},
		{notOk(item(0, api.Add, 2)), notOk(item(1, api.List, 2)), true},
		// One thread, or two places.
		{item(1, api.Write, 3), item(1, api.Read, 3), false},
		{item(1, api.Write, 3), item(1, api.Write, 3), false},
		{item(0, api.Write, 3), item(1, api.Read, 4), false},
		{item(0, api.Add, 2), item(1, api.List, 3), false},
		// A word and a list with the same number.
		{item(0, api.Write, 3), item(1, api.List, 3), false},
		{item(0, api.Write, 0), item(1, api.Add, 0), false},
		{item(0, api.Read, 0), item(1, api.Add, 0), false},
		// Atomic accesses.
		{item(0, api.Store, 3), item(1, api.Load, 3), false},
		{item(0, api.Store, 3), item(1, api.Read, 3), false},
		{item(0, api.Write, 3), item(1, api.Load, 3), false},
		{item(0, api.Write, 3), item(1, api.Store, 3), false},
		{item(0, api.Cas, 3), item(1, api.Write, 3), false},
		{item(0, api.Write, 3), item(1, api.Wait, 3), false},
		// Other kinds are neither plain nor atomic.
		{item(0, api.Write, -1), item(1, 0, 3), false},
		{item(0, 10, 3), item(1, api.Write, nowhere), false},
		{item(0, 0, 3), item(1, 0, 3), false},
		// Any threads, and places that nothing has.
		{item(-1, api.Write, 3), item(math.MinInt, api.Read, 3), true},
		{item(8, api.Write, 1<<33), item(math.MaxInt, api.Read, 1<<33), true},
		{item(0, api.Write, -1), item(1, api.Read, -2), true},
		{item(0, api.List, -1), item(1, api.Write, math.MinInt), true},
		{item(0, api.List, -1), item(1, api.Read, math.MinInt), false},
	} {
		if got := trace.Conflict(c.a, c.b); got != c.want {
			t.Errorf("Conflict(%+v, %+v) = %v", c.a, c.b, got)
		}
		if got := trace.Conflict(c.b, c.a); got != c.want {
			t.Errorf("Conflict(%+v, %+v) = %v", c.b, c.a, got)
		}
	}
}

// variety returns items of three threads and all kinds, at several addresses.
func variety() []api.Item {
	var items []api.Item
	for thread := range 3 {
		for _, kind := range append([]int{1, 2, 3, 4, 5, 6, 7, 8, 9}, noKinds...) {
			for _, address := range []int{0, 1, -1, math.MinInt, nowhere, nowhere - 1} {
				i := item(thread, kind, address)
				items = append(items, i, notOk(i))
			}
		}
	}
	return items
}

// access is what the next test knows of a kind of plain accesses.
type access struct{ list, writes bool }

func TestP6_2ConflictOfAllKinds(t *testing.T) {
	plain := map[int]access{5: {}, 6: {writes: true}, 7: {list: true}, 8: {list: true, writes: true}, 9: {list: true, writes: true}}
	items := variety()
	count := 0
	for _, a := range items {
		for _, b := range items {
			x, isPlain := plain[a.Access.Kind]
			y, isPlainToo := plain[b.Access.Kind]
			places := []int{a.Access.Address, b.Access.Address}
			for n, p := range []access{x, y} {
				switch {
				case places[n] < 0:
					places[n] = nowhere
				case p.list:
					places[n] = -1 - places[n]
				}
			}
			want := a.Thread != b.Thread && isPlain && isPlainToo && places[0] == places[1] && (x.writes || y.writes)
			if got := trace.Conflict(a, b); got != want {
				t.Fatalf("Conflict(%+v, %+v) = %v", a, b, got)
			}
			if want {
				count++
			}
		}
	}
	if count == 0 {
		t.Error("no two of the items are in conflict")
	}
}

func TestP6_3Of(t *testing.T) {
	l := []api.Item{item(0, api.Load, 1), item(2, api.Store, 1), item(0, api.Cas, 2), item(-1, 0, 0), item(2, api.Store, 1), item(0, api.Load, 0), item(math.MaxInt, api.Add, 4)}
	for _, c := range []struct {
		thread int
		want   []api.Item
	}{
		{0, []api.Item{l[0], l[2], l[5]}},
		{1, nil},
		{2, []api.Item{l[1], l[4]}},
		{-1, []api.Item{l[3]}},
		{math.MaxInt, []api.Item{l[6]}},
		{math.MinInt, nil},
	} {
		if got := trace.Of(l, c.thread); !slices.Equal(got, c.want) {
			t.Errorf("Of(%d) = %+v, expected %+v", c.thread, got, c.want)
		}
	}
	if len(trace.Of(nil, 0)) != 0 || len(trace.Of([]api.Item{}, 0)) != 0 {
		t.Error("Of an empty list is not empty")
	}
	if got := trace.Of(trace.Of(l, 0), 0); !slices.Equal(got, trace.Of(l, 0)) {
		t.Errorf("Of the items of thread 0 is %+v", got)
	}
}

// sample returns a memory with three words and two lists at the time 10.
func sample() api.Memory {
	return api.Memory{Words: []uint64{0, 7, math.MaxUint64}, Lists: [][]int{nil, {4, 5, 4}}, Tick: 10}
}

// with returns the sample with another word.
func with(address int, word uint64) api.Memory {
	m := sample()
	m.Words[address] = word
	return m
}

// withList returns the sample with another list.
func withList(address int, list ...int) api.Memory {
	m := sample()
	m.Lists[address] = list
	return m
}

func TestP6_3ReplayOfOneItem(t *testing.T) {
	for _, c := range []struct {
		access api.Access
		value  uint64
		ok     bool
		want   api.Memory
	}{
		{api.Access{Kind: api.Load, Address: 1}, 7, false, sample()},
		{api.Access{Kind: api.Load, Address: 2}, math.MaxUint64, false, sample()},
		{api.Access{Kind: api.Store, Address: 1, New: 8}, 0, false, with(1, 8)},
		{api.Access{Kind: api.Cas, Address: 0, Old: 0, New: 1}, 0, true, with(0, 1)},
		{api.Access{Kind: api.Cas, Address: 1, Old: 7, New: 7}, 7, true, sample()},
		{api.Access{Kind: api.Cas, Address: 1, Old: 6, New: 9}, 7, false, sample()},
		{api.Access{Kind: api.Wait, Address: 1, Old: 6}, 7, false, sample()},
		{api.Access{Kind: api.Read, Address: 1}, 7, false, sample()},
		{api.Access{Kind: api.Write, Address: 2, New: 3}, 0, false, with(2, 3)},
		{api.Access{Kind: api.List, Address: 1}, 0, false, sample()},
		{api.Access{Kind: api.Add, Address: 1, New: 6}, 4, false, withList(1, 4, 5, 4, 6)},
		{api.Access{Kind: api.Drop, Address: 1, New: 4}, 2, false, withList(1, 5, 4)},
		{api.Access{Kind: api.Drop, Address: 1, New: 6}, 3, false, sample()},
		{api.Access{Kind: api.Drop, Address: 0, New: 6}, 0, false, sample()},
		// Places that do not exist.
		{api.Access{Kind: api.Load, Address: 3}, 0, false, sample()},
		{api.Access{Kind: api.Write, Address: -1, New: 4}, 0, false, sample()},
		{api.Access{Kind: api.Cas, Address: math.MaxInt}, 0, false, sample()},
		{api.Access{Kind: api.Add, Address: 2, New: 4}, 0, false, sample()},
		{api.Access{Kind: api.Wait, Address: math.MinInt}, 0, false, sample()},
	} {
		checkReplay(t, c.access, c.value, c.ok, c.want)
	}
}

// checkReplay expects that the sample answers an access by a value and by ok, and becomes want, and that Replay accepts no other answer.
func checkReplay(t *testing.T, a api.Access, value uint64, ok bool, want api.Memory) {
	t.Helper()
	for _, thread := range []int{0, 5, -1} {
		right := api.Item{Thread: thread, Access: a, Value: value, Ok: ok}
		if m, ok := trace.Replay(sample(), []api.Item{right}); !ok || !equal(m, want) {
			t.Errorf("Replay of %+v = %+v, %v, expected %+v", right, m, ok, want)
		}
		for _, wrong := range []api.Item{
			{Thread: thread, Access: a, Value: value + 1, Ok: ok},
			{Thread: thread, Access: a, Value: value ^ 1<<63, Ok: ok},
			{Thread: thread, Access: a, Value: value, Ok: !ok},
			{Thread: thread, Access: a, Value: value - 1, Ok: !ok},
		} {
			expectFailure(t, sample(), wrong)
		}
	}
}

// expectFailure expects that Replay of some items returns the zero memory and false.
func expectFailure(t *testing.T, m api.Memory, items ...api.Item) {
	t.Helper()
	if got, ok := trace.Replay(m, items); ok || got.Words != nil || got.Lists != nil || got.Tick != 0 {
		t.Errorf("Replay(%+v, %+v) = %+v, %v", m, items, got, ok)
	}
}

func TestP6_3ReplayOfWaits(t *testing.T) {
	for _, c := range []struct {
		old   uint64
		until int
		want  bool
	}{
		{7, 0, false},
		{7, -1, false},
		{7, math.MinInt, false},
		{7, 1, true},
		{7, 11, true},
		{7, 12, false},
		{7, math.MaxInt, false},
		{6, 0, true},
		{6, 12, true},
		{6, 1, true},
	} {
		i := api.Item{Access: api.Access{Kind: api.Wait, Address: 1, Old: c.old, Until: c.until}, Value: 7}
		if !c.want {
			expectFailure(t, sample(), i)
			continue
		}
		// Time does not pass, so the same is granted a second time.
		if m, ok := trace.Replay(sample(), []api.Item{i, i}); !ok || !equal(m, sample()) {
			t.Errorf("Replay of %+v = %+v, %v", i, m, ok)
		}
		i.Value = 0
		expectFailure(t, sample(), i)
	}
	// A Wait that is not granted at the beginning, but behind a Store.
	wait := api.Item{Access: api.Access{Kind: api.Wait, Address: 0}, Value: 1}
	store := api.Item{Thread: 1, Access: api.Access{Kind: api.Store, Address: 0, New: 1}}
	expectFailure(t, sample(), wait, store)
	if m, ok := trace.Replay(sample(), []api.Item{store, wait}); !ok || !equal(m, with(0, 1)) {
		t.Errorf("Replay of a Store and a Wait = %+v, %v", m, ok)
	}
}

func TestP6_3ReplayOfKindsThatDoNotExist(t *testing.T) {
	for _, kind := range noKinds {
		for _, address := range []int{0, -1, math.MaxInt} {
			expectFailure(t, sample(), api.Item{Access: api.Access{Kind: kind, Address: address}})
			expectFailure(t, api.Memory{}, api.Item{Access: api.Access{Kind: kind, Address: address}})
		}
	}
}

func TestP6_3ReplayOfNothing(t *testing.T) {
	for _, m := range []api.Memory{{}, sample(), {Tick: math.MinInt}, {Words: []uint64{1}}} {
		for _, l := range [][]api.Item{nil, {}} {
			if got, ok := trace.Replay(m, l); !ok || !equal(got, m) {
				t.Errorf("Replay of nothing makes %+v, %v of %+v", got, ok, m)
			}
		}
	}
}

// numbers returns a function that returns numbers from 0 to n - 1, the same ones in every run.
func numbers() func(n int) int {
	state := uint64(12345)
	return func(n int) int {
		state = state*6364136223846793005 + 1442695040888963407
		return int(state >> 33 % uint64(n))
	}
}

// record makes accesses to a memory, and returns its states from the first one on and the items of the accesses that were granted.
func record(m api.Memory, accesses int) ([]api.Memory, []api.Item) {
	next := numbers()
	states, items := []api.Memory{m}, []api.Item(nil)
	for range accesses {
		a := api.Access{Kind: next(9) + 1, Address: next(4) - next(10)/9, Old: uint64(next(3)), New: uint64(next(3)), Until: next(14)}
		after, answer, ok := memory.Apply(m, a)
		if !ok {
			continue
		}
		m = after
		states = append(states, deepCopy(m))
		items = append(items, trace.Item(next(3), a, answer))
	}
	return states, items
}

func TestP6_3ReplayOfARun(t *testing.T) {
	states, items := record(sample(), 600)
	counts := map[int]int{}
	for _, i := range items {
		counts[i.Access.Kind]++
	}
	if len(counts) != api.Drop {
		t.Errorf("the run makes accesses of these kinds: %v", counts)
	}
	for n := range states {
		if m, ok := trace.Replay(sample(), items[:n]); !ok || !equal(m, states[n]) {
			t.Fatalf("Replay of %d items = %+v, %v, expected %+v", n, m, ok, states[n])
		}
	}
	for n := range items {
		changed := slices.Clone(items)
		changed[n].Value++
		expectFailure(t, sample(), changed...)
		changed[n] = items[n]
		changed[n].Ok = !items[n].Ok
		expectFailure(t, sample(), changed...)
	}
}

func TestP6_4ConflictIsSymmetric(t *testing.T) {
	items := variety()
	for _, a := range items {
		for _, b := range items {
			if trace.Conflict(a, b) != trace.Conflict(b, a) {
				t.Fatalf("Conflict(%+v, %+v) = %v, and the other way round %v", a, b, trace.Conflict(a, b), trace.Conflict(b, a))
			}
		}
	}
}

func TestP6_4ReplayOfTwoLists(t *testing.T) {
	_, items := record(sample(), 300)
	broken := slices.Clone(items)
	broken[len(broken)/2].Value += 3
	for _, l := range [][]api.Item{items, broken} {
		want, wantOk := trace.Replay(sample(), l)
		for n := range len(l) + 1 {
			m, ok := trace.Replay(sample(), l[:n])
			if ok {
				m, ok = trace.Replay(m, l[n:])
			}
			if ok != wantOk || !equal(m, want) {
				t.Fatalf("Replay of two lists, divided at %d, = %+v, %v, expected %+v, %v", n, m, ok, want, wantOk)
			}
		}
	}
}

// roomy returns the sample with spare capacity behind all its slices, and the items of a run with spare capacity.
func roomy() (api.Memory, []api.Item) {
	m := sample()
	m.Words = append(m.Words, 91, 92)[:3]
	m.Lists = append(m.Lists, []int{93})[:2]
	for i, list := range m.Lists {
		m.Lists[i] = append(slices.Clone(list), 94, 95, 96)[:len(list)]
	}
	_, items := record(sample(), 100)
	return m, append(items, item(0, 97, 97), item(1, 98, 98))[:len(items)]
}

// whole returns everything that lies in the slices of a memory, with their spare capacity.
func whole(m api.Memory) api.Memory {
	lists := slices.Clone(m.Lists[:cap(m.Lists)])
	for i, list := range lists {
		lists[i] = list[:cap(list)]
	}
	return deepCopy(api.Memory{Words: m.Words[:cap(m.Words)], Lists: lists, Tick: m.Tick})
}

func TestArgumentsAreNotModified(t *testing.T) {
	m, items := roomy()
	keptMemory, keptItems := whole(m), slices.Clone(items[:cap(items)])
	for n := range items {
		trace.Replay(m, items[:n])
		trace.Replay(m, items[n:])
		trace.Of(items[:n], n%3)
		trace.Item(n, items[n].Access, api.Answer{List: m.Lists[1]})
		trace.Conflict(items[n], items[0])
		if !equal(whole(m), keptMemory) || !slices.Equal(items[:cap(items)], keptItems) {
			t.Fatalf("the arguments are now %+v and %+v", m, items)
		}
	}
}

func TestResultsDependOnTheArgumentsOnly(t *testing.T) {
	m, items := roomy()
	first, _ := trace.Replay(m, items)
	kept := deepCopy(first)
	ofFirst := trace.Of(items, 0)
	trace.Replay(first, items[:1])
	trace.Replay(m, items[:len(items)/2])
	second, _ := trace.Replay(m, items)
	if !equal(first, kept) || !equal(second, kept) {
		t.Errorf("Replay returns first %+v and then %+v, expected %+v", first, second, kept)
	}
	if again := trace.Of(items, 0); !reflect.DeepEqual(again, ofFirst) || &again[0] == &items[0] {
		t.Errorf("Of returns first %+v and then %+v", ofFirst, again)
	}
}

func TestTotality(t *testing.T) {
	extremes := []int{math.MinInt, math.MinInt + 1, -nowhere, -1, 0, 1, nowhere, math.MaxInt - 1, math.MaxInt}
	memories := []api.Memory{{}, {Words: []uint64{0}, Lists: [][]int{nil}}, sample(), {Tick: math.MinInt}, {Tick: math.MaxInt}}
	for _, m := range memories {
		for kind := -1; kind <= 10; kind++ {
			for _, address := range extremes {
				for _, other := range extremes {
					a := api.Access{Kind: kind, Address: address, Old: uint64(other), New: uint64(other), Until: other}
					i := trace.Item(other, a, api.Answer{Value: uint64(other)})
					trace.Place(i)
					trace.Reads(i)
					trace.Changes(i)
					trace.Conflict(i, item(address, other, address))
					trace.Of([]api.Item{i}, address)
					trace.Replay(m, []api.Item{i, i})
				}
			}
		}
	}
}

func Example() {
	write := trace.Item(0, api.Access{Kind: api.Write, Address: 3, New: 5}, api.Answer{})
	read := trace.Item(1, api.Access{Kind: api.Read, Address: 3}, api.Answer{Value: 5})
	store := trace.Item(0, api.Access{Kind: api.Store, Address: 3, New: 5}, api.Answer{})
	load := trace.Item(1, api.Access{Kind: api.Load, Address: 3}, api.Answer{Value: 5})
	fmt.Println(trace.Conflict(write, read), trace.Conflict(store, load))
	m := api.Memory{Words: make([]uint64, 4)}
	after, ok := trace.Replay(m, []api.Item{write, read, store, load})
	fmt.Println(after.Words, ok)
	_, ok = trace.Replay(m, []api.Item{read, write})
	fmt.Println(ok)
	// Output:
	// true false
	// [0 0 0 5] true
	// false
}
