package happens_test

import (
	"math/rand"
	"slices"
	"testing"

	"chanfabric/api"
	"chanfabric/happens"
	"chanfabric/layout"
	"chanfabric/lock"
	"chanfabric/memory"
	"chanfabric/pop"
	"chanfabric/push"
	"chanfabric/trace"
)

// A machine is one of another layer, with its functions.
type machine struct {
	frame  api.Frame
	next   func(api.Frame) api.Access
	resume func(api.Frame, api.Answer) api.Frame
}

// single returns the machine that makes one access.
func single(a api.Access) machine {
	return machine{
		next: func(f api.Frame) api.Access {
			if f.Pc == 0 {
				return a
			}
			return api.Access{}
		},
		resume: func(f api.Frame, _ api.Answer) api.Frame { return api.Frame{Pc: 1} },
	}
}

// run lets threads run their machines, each thread one after another, in a random order of steps, and returns the memory afterwards and what was accessed.
func run(t *testing.T, random *rand.Rand, m api.Memory, threads ...[]machine) (api.Memory, []api.Item) {
	t.Helper()
	var items []api.Item
	left := make([][]machine, len(threads))
	for n := range threads {
		left[n] = slices.Clone(threads[n])
	}
	for slices.ContainsFunc(left, func(l []machine) bool { return len(l) > 0 }) {
		thread := random.Intn(len(left))
		if len(left[thread]) == 0 {
			continue
		}
		now := &left[thread][0]
		access := now.next(now.frame)
		after, answer, ok := memory.Apply(m, access)
		if !ok {
			t.Fatalf("the access %+v is not granted", access)
		}
		m, now.frame = after, now.resume(now.frame, answer)
		items = append(items, trace.Item(thread, access, answer))
		if now.next(now.frame) == (api.Access{}) {
			left[thread] = left[thread][1:]
		}
	}
	return m, items
}

// first returns the memory with which a configuration begins.
func first(t *testing.T, c api.Config) api.Memory {
	t.Helper()
	m, errno := layout.New(c)
	if errno != api.OK {
		t.Fatalf("%+v is not valid: %d", c, errno)
	}
	return m
}

// under lets each thread make some accesses three times, between Take and Release if locked.
func under(c api.Config, locked bool, accesses ...api.Access) [][]machine {
	var round []machine
	for _, a := range accesses {
		round = append(round, single(a))
	}
	if locked {
		take := machine{lock.Take(c, 0), lock.Next, lock.Resume}
		release := machine{lock.Release(c, 0), lock.Next, lock.Resume}
		round = slices.Concat([]machine{take}, round, []machine{release})
	}
	threads := make([][]machine, c.Threads)
	for n := range threads {
		threads[n] = slices.Concat(round, round, round)
	}
	return threads
}

func TestALockPreventsRaces(t *testing.T) {
	random := rand.New(rand.NewSource(7))
	c := api.Config{Capacities: []int{2}, Starts: []uint64{0}, Threads: 4}
	word, senders := layout.Senders(c, 0), layout.SenderList(c, 0)
	accesses := []api.Access{{Kind: api.Read, Address: word}, {Kind: api.Write, Address: word, New: 1}, {Kind: api.Add, Address: senders, New: 3}, {Kind: api.List, Address: senders}, {Kind: api.Drop, Address: senders, New: 3}}
	for range 100 {
		if _, items := run(t, random, first(t, c), under(c, true, accesses...)...); len(happens.Races(items, c.Threads)) != 0 {
			t.Fatalf("there are races under a lock: %v, %+v", happens.Races(items, c.Threads), items)
		}
		if _, items := run(t, random, first(t, c), under(c, false, accesses...)...); len(happens.Races(items, c.Threads)) == 0 {
			t.Fatalf("there are no races without a lock: %+v", items)
		}
	}
}

func pushing(c api.Config, value uint64) machine {
	return machine{push.Start(c, 0, value), push.Next, push.Resume}
}

func popping(c api.Config) machine {
	return machine{pop.Start(c, 0), pop.Next, pop.Resume}
}

func TestRingsHaveNoRaces(t *testing.T) {
	random := rand.New(rand.NewSource(8))
	for range 500 {
		c := api.Config{Capacities: []int{1 + random.Intn(3)}, Starts: []uint64{1<<63 - 2}, Threads: 4}
		threads := make([][]machine, c.Threads)
		for n := range threads {
			for range 1 + random.Intn(4) {
				threads[n] = append(threads[n], pushing(c, random.Uint64()), popping(c))
			}
		}
		if _, items := run(t, random, first(t, c), threads...); len(happens.Races(items, c.Threads)) != 0 {
			t.Fatalf("there are races: %v, %+v", happens.Races(items, c.Threads), items)
		}
	}
}

// The Cas of Tail is made before the value is written, so only the Store to the slot's sequence word says that it may be read.
func TestARingWithoutAStoreRaces(t *testing.T) {
	random := rand.New(rand.NewSource(9))
	c := api.Config{Capacities: []int{2}, Starts: []uint64{0}, Threads: 2}
	m, pushed := run(t, random, first(t, c), []machine{pushing(c, 77)}, nil)
	_, popped := run(t, random, m, nil, []machine{popping(c)})
	items := slices.Concat(pushed, popped)
	if got := happens.Races(items, 2); len(got) != 0 {
		t.Errorf("there are races: %v", got)
	}
	expectByPaths(t, items, 2)
	items = slices.Delete(items, len(pushed)-1, len(pushed))
	got := happens.Races(items, 2)
	if len(got) != 1 || items[got[0][0]].Access.Kind != api.Write || items[got[0][1]].Access.Kind != api.Read {
		t.Errorf("the races are %v of %+v", got, items)
	}
	expectByPaths(t, items, 2)
}

// turns returns items of threads that take a lock in turn, with two accesses to one word under each.
func turns(threads, n int) []api.Item {
	var l []api.Item
	for k := range n {
		thread := (k + k/threads) % threads
		l = append(l, won(thread, 2), read(thread, 7), write(thread, 7), store(thread, 2))
	}
	return l
}

func TestLongLists(t *testing.T) {
	const n = 50000
	locked := turns(8, n)
	clocks := happens.Clocks(locked, 8)
	if len(clocks) != len(locked) || len(happens.Races(locked, 8)) != 0 || !happens.Before(locked, 8, 0, len(locked)-1) {
		t.Errorf("%d clocks of %d items", len(clocks), len(locked))
	}
	total := 0
	for _, count := range clocks[len(clocks)-1] {
		total += count
	}
	if total != len(locked) {
		t.Errorf("the last clock is %v", clocks[len(clocks)-1])
	}
	var readers []api.Item
	for k := range n {
		readers = append(readers, read(k%8, 7))
	}
	// The last one writes, and races with what all others have read.
	readers = append(readers, write(0, 7))
	races := happens.Races(readers, 8)
	if len(races) != n-n/8 || races[0] != [2]int{1, n} || races[len(races)-1] != [2]int{n - 1, n} {
		t.Errorf("there are %d races", len(races))
	}
}
