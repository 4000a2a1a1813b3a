package memory_test

import (
	"fmt"
	"math"
	"slices"
	"testing"

	"chanfabric/api"
	"chanfabric/memory"
)

// Kinds that are no kinds of accesses.
var noKinds = []int{0, -1, 10, 11, -9, 1 << 32, 1<<32 + 1, math.MinInt, math.MaxInt}

// Addresses that neither a word nor a list of the memories here has.
var nowhere = []int{-1, -2, 5, 6, 1 << 32, math.MinInt, math.MaxInt}

// sample returns a memory with five words and five lists.
func sample() api.Memory {
	return api.Memory{
		Words: []uint64{0, 1, 7, 1 << 63, math.MaxUint64},
		Lists: [][]int{nil, {4}, {4, 5, 4, 6, 4}, {-1, math.MinInt, math.MaxInt}, {}},
		Tick:  10,
	}
}

// deepCopy returns a memory that shares nothing with m.
func deepCopy(m api.Memory) api.Memory {
	words := slices.Clone(m.Words)
	lists := slices.Clone(m.Lists)
	for i, list := range lists {
		lists[i] = slices.Clone(list)
	}
	return api.Memory{Words: words, Lists: lists, Tick: m.Tick}
}

// equal reports whether two memories are equal. A nil list and an empty one are.
func equal(a, b api.Memory) bool {
	return a.Tick == b.Tick && slices.Equal(a.Words, b.Words) && slices.EqualFunc(a.Lists, b.Lists, slices.Equal)
}

func equalAnswers(a, b api.Answer) bool {
	return a.Value == b.Value && a.Ok == b.Ok && a.Late == b.Late && slices.Equal(a.List, b.List)
}

// withWord returns the sample with another word.
func withWord(address int, word uint64) api.Memory {
	m := sample()
	m.Words[address] = word
	return m
}

// withList returns the sample with another list.
func withList(address int, list ...int) api.Memory {
	m := sample()
	m.Lists[address] = list
	return m
}

// applyCase is an access to the sample, and what Apply should make of it.
type applyCase struct {
	access api.Access
	memory api.Memory
	answer api.Answer
}

// runApply makes accesses to the sample that are all granted.
func runApply(t *testing.T, list []applyCase) {
	t.Helper()
	for i, c := range list {
		m, answer, ok := memory.Apply(sample(), c.access)
		if !ok || !equal(m, c.memory) || !equalAnswers(answer, c.answer) {
			t.Errorf("case %d: Apply(%+v) = %+v, %+v, %v, expected %+v, %+v, true", i, c.access, m, answer, ok, c.memory, c.answer)
		}
		if !memory.Granted(sample(), c.access) {
			t.Errorf("case %d: %+v is not granted", i, c.access)
		}
	}
}

func TestP4_1Kinds(t *testing.T) {
	for _, c := range []struct {
		kind           int
		atomic, writes bool
	}{
		{api.Load, true, false},
		{api.Store, true, true},
		{api.Cas, true, true},
		{api.Wait, true, false},
		{api.Read, false, false},
		{api.Write, false, true},
		{api.List, false, false},
		{api.Add, false, true},
		{api.Drop, false, true},
	} {
		if got := memory.Atomic(c.kind); got != c.atomic {
			t.Errorf("Atomic(%d) = %v", c.kind, got)
		}
		if got := memory.Writes(c.kind); got != c.writes {
			t.Errorf("Writes(%d) = %v", c.kind, got)
		}
	}
	for _, kind := range noKinds {
		if memory.Atomic(kind) || memory.Writes(kind) {
			t.Errorf("the kind %d is atomic (%v) or writes (%v)", kind, memory.Atomic(kind), memory.Writes(kind))
		}
	}
}

func TestP4_2Wait(t *testing.T) {
	for _, c := range []struct {
		address int
		old     uint64
		until   int
		tick    int
		want    bool
	}{
		// The word differs.
		{2, 6, 0, 0, true},
		{2, 8, 100, 0, true},
		{2, 1<<32 + 7, 0, 0, true},
		{4, math.MaxInt64, 0, 0, true},
		{0, 1, -1, -1, true},
		// The word is Old, and there is no time.
		{2, 7, 0, 0, false},
		{2, 7, 0, math.MaxInt, false},
		{2, 7, 0, -1, false},
		{2, 7, -1, math.MaxInt, false},
		{2, 7, -1, -2, false},
		{2, 7, math.MinInt, math.MaxInt, false},
		{2, 7, math.MinInt, math.MinInt, false},
		{0, 0, 0, 0, false},
		{3, 1 << 63, 0, 0, false},
		{4, math.MaxUint64, 0, 0, false},
		// The word is Old, and the time has come or not.
		{2, 7, 1, 0, true},
		{2, 7, 1, -1, false},
		{2, 7, 2, 0, false},
		{2, 7, 2, 1, true},
		{2, 7, 11, 9, false},
		{2, 7, 11, 10, true},
		{2, 7, 11, 11, true},
		{2, 7, api.MaxTime + 1, api.MaxTime - 1, false},
		{2, 7, api.MaxTime + 1, api.MaxTime, true},
		{2, 7, math.MaxInt, math.MaxInt - 2, false},
		{2, 7, math.MaxInt, math.MaxInt - 1, true},
		{2, 7, math.MaxInt, math.MaxInt, true},
		{2, 7, 1, math.MinInt, false},
		{2, 7, math.MaxInt, math.MinInt, false},
		// There is no such word.
		{-1, 0, 0, 0, true},
		{5, 0, 0, 0, true},
		{math.MinInt, 0, 100, 0, true},
		{math.MaxInt, 7, 0, 0, true},
	} {
		m := sample()
		m.Tick = c.tick
		a := api.Access{Kind: api.Wait, Address: c.address, Old: c.old, New: 3, Until: c.until}
		if got := memory.Granted(m, a); got != c.want {
			t.Errorf("Granted(%+v) = %v at the time %d", a, got, c.tick)
		}
		after, answer, ok := memory.Apply(m, a)
		if ok != c.want || !equal(after, m) {
			t.Errorf("Apply(%+v) = %+v, %v at the time %d", a, after, ok, c.tick)
		}
		if !c.want && !equalAnswers(answer, api.Answer{}) {
			t.Errorf("Apply(%+v) has the answer %+v at the time %d", a, answer, c.tick)
		}
	}
	// A list with this number is no word.
	lists := api.Memory{Lists: [][]int{{1}}}
	if !memory.Granted(lists, api.Access{Kind: api.Wait}) || !memory.Granted(api.Memory{}, api.Access{Kind: api.Wait}) {
		t.Error("a Wait for a word that does not exist is not granted")
	}
}

func TestP4_2OtherKindsAreAlwaysGranted(t *testing.T) {
	for kind := api.Load; kind <= api.Drop; kind++ {
		if kind == api.Wait {
			continue
		}
		for _, address := range append([]int{0, 2}, nowhere...) {
			for _, old := range []uint64{0, 7} {
				for _, until := range []int{0, 99, math.MinInt} {
					a := api.Access{Kind: kind, Address: address, Old: old, New: 4, Until: until}
					if _, _, ok := memory.Apply(sample(), a); !ok || !memory.Granted(sample(), a) {
						t.Errorf("%+v is not granted", a)
					}
				}
			}
		}
	}
}

func TestP4_2OtherNumbersAreNeverGranted(t *testing.T) {
	for _, kind := range noKinds {
		for _, address := range append([]int{0, 2}, nowhere...) {
			a := api.Access{Kind: kind, Address: address, Old: 5, New: 4, Until: 1}
			if memory.Granted(sample(), a) {
				t.Errorf("%+v is granted", a)
			}
			m, answer, ok := memory.Apply(sample(), a)
			if ok || !equal(m, sample()) || !equalAnswers(answer, api.Answer{}) {
				t.Errorf("Apply(%+v) = %+v, %+v, %v", a, m, answer, ok)
			}
		}
	}
}

func TestP4_3Words(t *testing.T) {
	runApply(t, []applyCase{
		{api.Access{Kind: api.Load, Address: 0}, sample(), api.Answer{}},
		{api.Access{Kind: api.Load, Address: 2, Old: 7, New: 3, Until: 1}, sample(), api.Answer{Value: 7}},
		{api.Access{Kind: api.Load, Address: 4}, sample(), api.Answer{Value: math.MaxUint64}},
		{api.Access{Kind: api.Read, Address: 2, Old: 7, New: 3, Until: 1}, sample(), api.Answer{Value: 7}},
		{api.Access{Kind: api.Read, Address: 3}, sample(), api.Answer{Value: 1 << 63}},
		{api.Access{Kind: api.Store, Address: 2, New: 3}, withWord(2, 3), api.Answer{}},
		{api.Access{Kind: api.Store, Address: 0, Old: 9, New: math.MaxUint64, Until: 1}, withWord(0, math.MaxUint64), api.Answer{}},
		{api.Access{Kind: api.Store, Address: 4}, withWord(4, 0), api.Answer{}},
		{api.Access{Kind: api.Store, Address: 2, New: 7}, sample(), api.Answer{}},
		{api.Access{Kind: api.Write, Address: 2, New: 3}, withWord(2, 3), api.Answer{}},
		{api.Access{Kind: api.Write, Address: 1, Old: 9, New: 1 << 63, Until: 1}, withWord(1, 1<<63), api.Answer{}},
		{api.Access{Kind: api.Write, Address: 4}, withWord(4, 0), api.Answer{}},
	})
}

func TestP4_3Cas(t *testing.T) {
	runApply(t, []applyCase{
		{api.Access{Kind: api.Cas, Address: 0, Old: 0, New: 1}, withWord(0, 1), api.Answer{Ok: true}},
		{api.Access{Kind: api.Cas, Address: 1, Old: 0, New: 1}, sample(), api.Answer{Value: 1}},
		{api.Access{Kind: api.Cas, Address: 2, Old: 7, New: 0}, withWord(2, 0), api.Answer{Value: 7, Ok: true}},
		{api.Access{Kind: api.Cas, Address: 2, Old: 7, New: 7}, sample(), api.Answer{Value: 7, Ok: true}},
		{api.Access{Kind: api.Cas, Address: 2, Old: 8, New: 9}, sample(), api.Answer{Value: 7}},
		{api.Access{Kind: api.Cas, Address: 2, Old: 9, New: 7}, sample(), api.Answer{Value: 7}},
		{api.Access{Kind: api.Cas, Address: 0, Old: 1 << 63, New: 9}, sample(), api.Answer{}},
		{api.Access{Kind: api.Cas, Address: 4, Old: math.MaxUint64, New: 1 << 63, Until: 1}, withWord(4, 1<<63), api.Answer{Value: math.MaxUint64, Ok: true}},
	})
}

func TestP4_3CasAgain(t *testing.T) {
	a := api.Access{Kind: api.Cas, Old: 0, New: 1}
	m, answer, ok := memory.Apply(api.Memory{Words: []uint64{0}}, a)
	if !ok || !equal(m, api.Memory{Words: []uint64{1}}) || !equalAnswers(answer, api.Answer{Ok: true}) {
		t.Errorf("the first Cas: %+v, %+v, %v", m, answer, ok)
	}
	m, answer, ok = memory.Apply(m, a)
	if !ok || !equal(m, api.Memory{Words: []uint64{1}}) || !equalAnswers(answer, api.Answer{Value: 1}) {
		t.Errorf("the second Cas: %+v, %+v, %v", m, answer, ok)
	}
}

func TestP4_3Wait(t *testing.T) {
	// The time of the sample is 10.
	runApply(t, []applyCase{
		{api.Access{Kind: api.Wait, Address: 2, Old: 6}, sample(), api.Answer{Value: 7}},
		{api.Access{Kind: api.Wait, Address: 2, Old: 0, New: 3}, sample(), api.Answer{Value: 7}},
		{api.Access{Kind: api.Wait, Address: 2, Old: 6, Until: 5}, sample(), api.Answer{Value: 7}},
		{api.Access{Kind: api.Wait, Address: 2, Old: 6, Until: 50}, sample(), api.Answer{Value: 7}},
		{api.Access{Kind: api.Wait, Address: 2, Old: 7, Until: 1}, sample(), api.Answer{Value: 7, Late: true}},
		{api.Access{Kind: api.Wait, Address: 2, Old: 7, New: 3, Until: 11}, sample(), api.Answer{Value: 7, Late: true}},
		{api.Access{Kind: api.Wait, Address: 0, Old: 0, Until: 11}, sample(), api.Answer{Late: true}},
		{api.Access{Kind: api.Wait, Address: 0, Old: 1, Until: 11}, sample(), api.Answer{}},
	})
}

func TestP4_3Lists(t *testing.T) {
	negative := -5
	runApply(t, []applyCase{
		{api.Access{Kind: api.List, Address: 0}, sample(), api.Answer{}},
		{api.Access{Kind: api.List, Address: 2, Old: 4, New: 4, Until: 1}, sample(), api.Answer{List: []int{4, 5, 4, 6, 4}}},
		{api.Access{Kind: api.List, Address: 3}, sample(), api.Answer{List: []int{-1, math.MinInt, math.MaxInt}}},
		{api.Access{Kind: api.List, Address: 4}, sample(), api.Answer{}},
		{api.Access{Kind: api.Add, Address: 0, New: 3}, withList(0, 3), api.Answer{Value: 1}},
		{api.Access{Kind: api.Add, Address: 4}, withList(4, 0), api.Answer{Value: 1}},
		{api.Access{Kind: api.Add, Address: 1, New: 4, Old: 9, Until: 1}, withList(1, 4, 4), api.Answer{Value: 2}},
		{api.Access{Kind: api.Add, Address: 2, New: 3}, withList(2, 4, 5, 4, 6, 4, 3), api.Answer{Value: 6}},
		{api.Access{Kind: api.Add, Address: 1, New: uint64(negative)}, withList(1, 4, -5), api.Answer{Value: 2}},
		{api.Access{Kind: api.Add, Address: 1, New: 1 << 63}, withList(1, 4, math.MinInt), api.Answer{Value: 2}},
		{api.Access{Kind: api.Add, Address: 1, New: math.MaxUint64}, withList(1, 4, -1), api.Answer{Value: 2}},
		{api.Access{Kind: api.Drop, Address: 1, New: 4}, withList(1), api.Answer{}},
		{api.Access{Kind: api.Drop, Address: 2, New: 4, Old: 9, Until: 1}, withList(2, 5, 4, 6, 4), api.Answer{Value: 4}},
		{api.Access{Kind: api.Drop, Address: 2, New: 5}, withList(2, 4, 4, 6, 4), api.Answer{Value: 4}},
		{api.Access{Kind: api.Drop, Address: 2, New: 6}, withList(2, 4, 5, 4, 4), api.Answer{Value: 4}},
		{api.Access{Kind: api.Drop, Address: 3, New: math.MaxUint64}, withList(3, math.MinInt, math.MaxInt), api.Answer{Value: 2}},
		{api.Access{Kind: api.Drop, Address: 3, New: 1 << 63}, withList(3, -1, math.MaxInt), api.Answer{Value: 2}},
		{api.Access{Kind: api.Drop, Address: 3, New: math.MaxInt}, withList(3, -1, math.MinInt), api.Answer{Value: 2}},
	})
}

func TestP4_3DropOfAnElementThatIsNotThere(t *testing.T) {
	runApply(t, []applyCase{
		{api.Access{Kind: api.Drop, Address: 0, New: 4}, sample(), api.Answer{}},
		{api.Access{Kind: api.Drop, Address: 4}, sample(), api.Answer{}},
		{api.Access{Kind: api.Drop, Address: 1, New: 5, Old: 4}, sample(), api.Answer{Value: 1}},
		{api.Access{Kind: api.Drop, Address: 2, New: 7}, sample(), api.Answer{Value: 5}},
		{api.Access{Kind: api.Drop, Address: 2, New: 1<<32 + 4}, sample(), api.Answer{Value: 5}},
		{api.Access{Kind: api.Drop, Address: 3, New: 1}, sample(), api.Answer{Value: 3}},
	})
}

func TestP4_3AddToAFullList(t *testing.T) {
	for _, c := range []struct{ before, after int }{{998, 999}, {999, 1000}, {1000, 1000}, {1001, 1001}, {1500, 1500}} {
		list := slices.Repeat([]int{6}, c.before)
		m := api.Memory{Words: []uint64{8}, Lists: [][]int{{1}, list}, Tick: 3}
		want := slices.Clone(list)
		if c.after > c.before {
			want = append(want, 7)
		}
		got, answer, ok := memory.Apply(m, api.Access{Kind: api.Add, Address: 1, New: 7})
		if !ok || !equal(got, api.Memory{Words: []uint64{8}, Lists: [][]int{{1}, want}, Tick: 3}) {
			t.Errorf("an Add to a list of %d elements leaves %d, %v", c.before, len(got.Lists[1]), ok)
		}
		if !equalAnswers(answer, api.Answer{Value: uint64(c.after)}) {
			t.Errorf("an Add to a list of %d elements is answered by %+v", c.before, answer)
		}
		// The other list is not full.
		if got, answer, _ := memory.Apply(m, api.Access{Kind: api.Add, New: 7}); answer.Value != 2 || len(got.Lists[0]) != 2 {
			t.Errorf("an Add to the other list: %v, %+v", got.Lists[0], answer)
		}
		// A full list can become shorter.
		if got, answer, _ := memory.Apply(m, api.Access{Kind: api.Drop, Address: 1, New: 6}); answer.Value != uint64(c.before-1) || len(got.Lists[1]) != c.before-1 {
			t.Errorf("a Drop from a list of %d elements: %d, %+v", c.before, len(got.Lists[1]), answer)
		}
		if _, answer, _ := memory.Apply(m, api.Access{Kind: api.List, Address: 1}); !slices.Equal(answer.List, list) {
			t.Errorf("a list of %d elements is answered by %d", c.before, len(answer.List))
		}
	}
}

func TestP4_3AccessesToNothing(t *testing.T) {
	for kind := api.Load; kind <= api.Drop; kind++ {
		for _, address := range nowhere {
			for _, old := range []uint64{0, 7} {
				for _, until := range []int{0, 1, 99} {
					runApply(t, []applyCase{{api.Access{Kind: kind, Address: address, Old: old, New: 4, Until: until}, sample(), api.Answer{}}})
				}
			}
		}
	}
	// Words and lists have numbers of their own.
	words, lists := api.Memory{Words: []uint64{7}}, api.Memory{Lists: [][]int{{4}}}
	for kind := api.Load; kind <= api.Drop; kind++ {
		m := lists
		if kind >= api.List {
			m = words
		}
		after, answer, ok := memory.Apply(m, api.Access{Kind: kind, New: 4})
		if !ok || !equal(after, m) || !equalAnswers(answer, api.Answer{}) {
			t.Errorf("an access of the kind %d to nothing: %+v, %+v, %v", kind, after, answer, ok)
		}
	}
}

func TestP4_4Tick(t *testing.T) {
	for _, c := range []struct{ tick, n, want int }{
		{0, 1, 1},
		{10, 5, 15},
		{0, api.MaxTime, api.MaxTime},
		{0, api.MaxTime + 1, api.MaxTime},
		{0, api.MaxTime - 1, api.MaxTime - 1},
		{1, api.MaxTime - 1, api.MaxTime},
		{2, api.MaxTime - 1, api.MaxTime},
		{api.MaxTime - 1, 1, api.MaxTime},
		{api.MaxTime - 1, 2, api.MaxTime},
		{api.MaxTime, 1, api.MaxTime},
		{api.MaxTime - 1, math.MaxInt, api.MaxTime},
		{0, math.MaxInt, api.MaxTime},
		// Nothing passes.
		{10, 0, 10},
		{10, -1, 10},
		{10, math.MinInt, 10},
		{math.MinInt, math.MinInt, math.MinInt},
		{math.MaxInt, 0, math.MaxInt},
		{api.MaxTime + 5, -3, api.MaxTime + 5},
		// Times that do not come up by themselves.
		{-7, 3, -4},
		{-7, 7, 0},
		{-1, math.MaxInt, api.MaxTime},
		{math.MinInt, 1, math.MinInt + 1},
		{math.MinInt, math.MaxInt, -1},
		{api.MaxTime + 1, 1, api.MaxTime},
		{math.MaxInt, 1, api.MaxTime},
		{math.MaxInt, math.MaxInt, api.MaxTime},
	} {
		m := sample()
		m.Tick = c.tick
		want := sample()
		want.Tick = c.want
		if got := memory.Tick(m, c.n); !equal(got, want) {
			t.Errorf("Tick(%d) at the time %d returns %+v, expected the time %d", c.n, c.tick, got, c.want)
		}
	}
}

// changed returns how many words and lists differ between two memories.
func changed(a, b api.Memory) int {
	count := 0
	for i := range a.Words {
		if a.Words[i] != b.Words[i] {
			count++
		}
	}
	for i := range a.Lists {
		if !slices.Equal(a.Lists[i], b.Lists[i]) {
			count++
		}
	}
	return count
}

// everyAccess calls f with accesses of all kinds to all places of the sample and beside them.
func everyAccess(f func(a api.Access)) {
	values := []uint64{0, 1, 4, 5, 7, 1 << 63, math.MaxUint64}
	for kind := -1; kind <= 10; kind++ {
		for address := -1; address <= 5; address++ {
			for _, old := range values {
				for _, now := range values {
					for _, until := range []int{0, 11, 12} {
						f(api.Access{Kind: kind, Address: address, Old: old, New: now, Until: until})
					}
				}
			}
		}
	}
}

func TestP4_5WhatChanges(t *testing.T) {
	changes := map[int]int{}
	everyAccess(func(a api.Access) {
		m, answer, ok := memory.Apply(sample(), a)
		if len(m.Words) != 5 || len(m.Lists) != 5 || m.Tick != 10 {
			t.Fatalf("Apply(%+v) returns %+v", a, m)
		}
		if ok != memory.Granted(sample(), a) {
			t.Fatalf("Apply(%+v) returns %v", a, ok)
		}
		count := changed(sample(), m)
		if count > 1 {
			t.Fatalf("Apply(%+v) changes %d words and lists", a, count)
		}
		silent := !ok || !memory.Writes(a.Kind) || a.Kind == api.Cas && !answer.Ok
		if silent && count != 0 {
			t.Fatalf("Apply(%+v) changes the memory", a)
		}
		changes[a.Kind] += count
	})
	for kind := -1; kind <= 10; kind++ {
		if (changes[kind] > 0) != memory.Writes(kind) {
			t.Errorf("accesses of the kind %d change the memory %d times", kind, changes[kind])
		}
	}
}

// mapMemory is a memory made of maps, which the next test goes by.
type mapMemory struct {
	words map[int]uint64
	lists map[int][]int
	tick  int
}

// apply follows the sentences of the document and of package api one by one.
func (p mapMemory) apply(a api.Access) (answer api.Answer, granted bool) {
	word, isWord := p.words[a.Address]
	list, isList := p.lists[a.Address]
	switch a.Kind {
	case 1, 5:
		return api.Answer{Value: word}, true
	case 2, 6:
		if isWord {
			p.words[a.Address] = a.New
		}
		return api.Answer{}, true
	case 3:
		if isWord && word == a.Old {
			p.words[a.Address] = a.New
			return api.Answer{Value: word, Ok: true}, true
		}
		return api.Answer{Value: word}, true
	case 4:
		if isWord && word == a.Old {
			late := a.Until > 0 && a.Until <= p.tick+1
			if !late {
				return api.Answer{}, false
			}
			return api.Answer{Value: word, Late: true}, true
		}
		return api.Answer{Value: word}, true
	case 7:
		return api.Answer{List: list}, true
	case 8:
		if isList && len(list) < 1000 {
			list = append(slices.Clone(list), int(a.New))
			p.lists[a.Address] = list
		}
		return api.Answer{Value: uint64(len(list))}, true
	case 9:
		for i, element := range list {
			if element == int(a.New) {
				list = slices.Delete(slices.Clone(list), i, i+1)
				p.lists[a.Address] = list
				break
			}
		}
		return api.Answer{Value: uint64(len(list))}, true
	}
	return api.Answer{}, false
}

// numbers returns a function that returns numbers from 0 to n - 1, the same ones in every run.
func numbers() func(n int) int {
	state := uint64(12345)
	return func(n int) int {
		state = state*6364136223846793005 + 1442695040888963407
		return int(state >> 33 % uint64(n))
	}
}

func TestP4_3LongRuns(t *testing.T) {
	const words, lists = 4, 3
	next := numbers()
	m := api.Memory{Words: make([]uint64, words), Lists: make([][]int, lists)}
	other := mapMemory{words: map[int]uint64{}, lists: map[int][]int{}}
	for i := range words {
		other.words[i] = 0
	}
	for i := range lists {
		other.lists[i] = nil
	}
	for i := range 100000 {
		if next(20) == 0 {
			n := next(4) - 1
			m = memory.Tick(m, n)
			other.tick += max(n, 0)
		}
		a := api.Access{Kind: next(11), Address: next(6) - 1, Old: uint64(next(3)), New: uint64(next(3)), Until: next(2) * next(other.tick+5)}
		want, granted := other.apply(a)
		after, answer, ok := memory.Apply(m, a)
		if ok != granted || !equalAnswers(answer, want) {
			t.Fatalf("access %d: Apply(%+v, %+v) = %+v, %v, expected %+v, %v", i, m, a, answer, ok, want, granted)
		}
		m = after
		for address, word := range other.words {
			if m.Words[address] != word {
				t.Fatalf("access %d, %+v: the words are %v, expected %v", i, a, m.Words, other.words)
			}
		}
		for address, list := range other.lists {
			if !slices.Equal(m.Lists[address], list) {
				t.Fatalf("access %d, %+v: the lists are %v, expected %v", i, a, m.Lists, other.lists)
			}
		}
		if m.Tick != other.tick || len(m.Words) != words || len(m.Lists) != lists {
			t.Fatalf("access %d, %+v: the memory is %+v, expected %+v", i, a, m, other)
		}
	}
}

// roomy returns the sample with spare capacity behind all its slices, and these slices with the spare capacity.
func roomy() (m api.Memory, words []uint64, lists [][]int, elements [][]int) {
	m = sample()
	words = append(slices.Clone(m.Words), 91, 92, 93)
	lists = append(slices.Clone(m.Lists), []int{94}, []int{95})
	elements = make([][]int, len(lists))
	for i, list := range lists {
		elements[i] = append(slices.Clone(list), 96, 97, 98)
		lists[i] = elements[i][:len(list)]
	}
	return api.Memory{Words: words[:5], Lists: lists[:5], Tick: m.Tick}, words, lists, elements
}

func TestArgumentsAreNotModified(t *testing.T) {
	m, words, lists, elements := roomy()
	keptWords, keptLists := slices.Clone(words), deepCopy(api.Memory{Lists: lists}).Lists
	keptElements := deepCopy(api.Memory{Lists: elements}).Lists
	everyAccess(func(a api.Access) {
		memory.Granted(m, a)
		memory.Apply(m, a)
		memory.Tick(m, a.Address)
		if !slices.Equal(words, keptWords) || !slices.EqualFunc(lists, keptLists, slices.Equal) || !slices.EqualFunc(elements, keptElements, slices.Equal) {
			t.Fatalf("%+v has changed the arguments to %v, %v, %v", a, words, lists, elements)
		}
	})
}

func TestLaterAccessesDoNotChangeEarlierResults(t *testing.T) {
	next := numbers()
	m := sample()
	var results, kept []api.Memory
	var answers, keptAnswers [][]int
	for range 2000 {
		// Two accesses to the same memory must not come into each other's way either.
		for range 2 {
			a := api.Access{Kind: next(10), Address: next(5), Old: uint64(next(2)), New: uint64(next(2)), Until: next(2)}
			after, answer, _ := memory.Apply(m, a)
			results, kept = append(results, after), append(kept, deepCopy(after))
			answers, keptAnswers = append(answers, answer.List), append(keptAnswers, slices.Clone(answer.List))
		}
		m = results[len(results)-1-next(2)]
	}
	if !slices.EqualFunc(results, kept, equal) {
		t.Error("a memory has changed after it was returned")
	}
	if !slices.EqualFunc(answers, keptAnswers, slices.Equal) {
		t.Error("an answer has changed after it was returned")
	}
}

func TestTotality(t *testing.T) {
	extremes := []int{math.MinInt, math.MinInt + 1, -1, 0, 1, math.MaxInt - 1, math.MaxInt}
	memories := []api.Memory{{}, {Words: []uint64{0}, Lists: [][]int{nil}}, sample()}
	for _, m := range memories {
		for _, number := range extremes {
			m.Tick = number
			for _, n := range extremes {
				if got := memory.Tick(m, n); n > 0 && got.Tick > api.MaxTime {
					t.Errorf("Tick(%d) at the time %d returns the time %d", n, number, got.Tick)
				}
				for kind := api.Load; kind <= api.Drop; kind++ {
					for _, until := range extremes {
						memory.Apply(m, api.Access{Kind: kind, Address: n, Old: math.MaxUint64, New: math.MaxUint64, Until: until})
					}
				}
				memory.Apply(m, api.Access{Kind: n, Address: number})
			}
		}
	}
}

func Example() {
	m := api.Memory{Words: []uint64{0}, Lists: [][]int{{4, 5}}}
	cas := api.Access{Kind: api.Cas, Address: 0, Old: 0, New: 1}
	for range 2 {
		var answer api.Answer
		m, answer, _ = memory.Apply(m, cas)
		fmt.Println(answer.Ok, answer.Value, m.Words)
	}
	m, answer, _ := memory.Apply(m, api.Access{Kind: api.Add, Address: 0, New: 6})
	fmt.Println(answer.Value, m.Lists)
	wait := api.Access{Kind: api.Wait, Address: 0, Old: 1, Until: 4}
	fmt.Println(memory.Granted(m, wait), memory.Granted(memory.Tick(m, 3), wait))
	// Output:
	// true 0 [1]
	// false 1 [1]
	// 3 [[4 5 6]]
	// false true
}
