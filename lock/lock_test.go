package lock_test

import (
	"fmt"
	"math"
	"reflect"
	"slices"
	"testing"

	"chanfabric/api"
	"chanfabric/layout"
	"chanfabric/lock"
	"chanfabric/memory"
)

const last = 1<<63 - 1 // the greatest sequence number

// starting returns a configuration of three threads whose rings all start at the same number.
func starting(start uint64, capacities ...int) api.Config {
	return api.Config{Capacities: capacities, Starts: slices.Repeat([]uint64{start}, len(capacities)), Threads: 3}
}

// samples returns valid configurations.
func samples() []api.Config {
	return []api.Config{
		starting(0, 0),
		starting(0, 2, 0),
		starting(last, 1, 1, 0, 0, 3),
		starting(7, 16, 16, 16, 16, 16, 16, 16, 16),
		{Capacities: []int{5, 0, 16, 1, 9, 2, 4, 8}, Starts: []uint64{0, 1, last, 1 << 62, 7, last - 3, 1<<62 - 1, 12345678901}, Threads: 8},
	}
}

// answers returns answers of all sorts, with this Ok.
func answers(ok bool) []api.Answer {
	var list []api.Answer
	for _, value := range []uint64{0, 1, 2, 1 << 32, math.MaxUint64} {
		for _, late := range []bool{false, true} {
			list = append(list, api.Answer{Value: value, Ok: ok, Late: late}, api.Answer{Value: value, Ok: ok, Late: late, List: []int{0, 1}})
		}
	}
	return list
}

// expectWants expects that a machine wants an access, and has not ended.
func expectWants(t *testing.T, f api.Frame, want api.Access) {
	t.Helper()
	if got := lock.Next(f); got != want {
		t.Errorf("Next = %+v, expected %+v", got, want)
	}
	if got, ok := lock.End(f); ok || got != (api.Outcome{}) {
		t.Errorf("End of a machine that wants %+v = %+v, %v", want, got, ok)
	}
}

// expectEnded expects that a machine has ended with OutOk, and stays as it is whatever it is answered.
func expectEnded(t *testing.T, f api.Frame) {
	t.Helper()
	if got, ok := lock.End(f); !ok || got != (api.Outcome{Kind: api.OutOk}) {
		t.Errorf("End of a machine that has ended = %+v, %v", got, ok)
	}
	if got := lock.Next(f); got != (api.Access{}) {
		t.Errorf("Next of a machine that has ended = %+v", got)
	}
	for _, a := range slices.Concat(answers(true), answers(false)) {
		if got := lock.Resume(f, a); !reflect.DeepEqual(got, f) {
			t.Errorf("Resume(%+v, %+v) = %+v, and it has ended", f, a, got)
		}
	}
}

// takes returns the access that a machine of Take wants.
func takes(c api.Config, channel int) api.Access {
	return api.Access{Kind: api.Cas, Address: layout.Lock(c, channel), Old: 0, New: 1}
}

// releases returns the access that a machine of Release wants.
func releases(c api.Config, channel int) api.Access {
	return api.Access{Kind: api.Store, Address: layout.Lock(c, channel), New: 0}
}

func TestP7_1Take(t *testing.T) {
	for _, c := range samples() {
		for channel := range c.Capacities {
			expectWants(t, lock.Take(c, channel), takes(c, channel))
			for _, a := range answers(true) {
				expectEnded(t, lock.Resume(lock.Take(c, channel), a))
			}
		}
	}
}

func TestP7_1TakeTriesAgain(t *testing.T) {
	for _, c := range samples() {
		for channel := range c.Capacities {
			f := lock.Take(c, channel)
			for range 100 {
				for _, a := range answers(false) {
					f = lock.Resume(f, a)
					expectWants(t, f, takes(c, channel))
				}
			}
			for _, a := range answers(true) {
				expectEnded(t, lock.Resume(f, a))
			}
		}
	}
}

func TestP7_2Release(t *testing.T) {
	for _, c := range samples() {
		for channel := range c.Capacities {
			expectWants(t, lock.Release(c, channel), releases(c, channel))
			// A Store is answered without Ok; the machine ends with any answer.
			for _, a := range slices.Concat(answers(false), answers(true)) {
				expectEnded(t, lock.Resume(lock.Release(c, channel), a))
			}
		}
	}
}

func TestNumbersOfTheWords(t *testing.T) {
	c := starting(0, 2, 0)
	for _, e := range []struct {
		name      string
		got, want api.Access
	}{
		{"Take of channel 0", lock.Next(lock.Take(c, 0)), api.Access{Kind: 3, Address: 2, Old: 0, New: 1}},
		{"Take of channel 1", lock.Next(lock.Take(c, 1)), api.Access{Kind: 3, Address: 11, Old: 0, New: 1}},
		{"Release of channel 0", lock.Next(lock.Release(c, 0)), api.Access{Kind: 2, Address: 2}},
		{"Release of channel 1", lock.Next(lock.Release(c, 1)), api.Access{Kind: 2, Address: 11}},
	} {
		if e.got != e.want {
			t.Errorf("%s wants %+v, expected %+v", e.name, e.got, e.want)
		}
	}
}

// step makes the access that a machine wants.
func step(t *testing.T, m api.Memory, f api.Frame) (api.Memory, api.Frame) {
	t.Helper()
	after, answer, ok := memory.Apply(m, lock.Next(f))
	if !ok {
		t.Fatalf("%+v is not granted", lock.Next(f))
	}
	return after, lock.Resume(f, answer)
}

// first returns the memory with which a configuration begins.
func first(t *testing.T, c api.Config) api.Memory {
	t.Helper()
	m, errno := layout.New(c)
	if errno != api.OK {
		t.Fatalf("New(%+v) = %d", c, errno)
	}
	return m
}

// hasEnded reports whether a machine has ended.
func hasEnded(f api.Frame) bool {
	_, ok := lock.End(f)
	return ok
}

func TestTakeAndReleaseInTurn(t *testing.T) {
	for _, c := range samples() {
		m := first(t, c)
		before := slices.Clone(m.Words)
		for channel := range c.Capacities {
			var taken, refused, released api.Frame
			m, taken = step(t, m, lock.Take(c, channel))
			expectEnded(t, taken)
			refused = lock.Take(c, channel)
			for range 3 {
				m, refused = step(t, m, refused)
				expectWants(t, refused, takes(c, channel))
			}
			want := slices.Clone(before)
			want[layout.Lock(c, channel)] = 1
			if !slices.Equal(m.Words, want) {
				t.Errorf("the words are %v, expected %v", m.Words, want)
			}
			m, released = step(t, m, lock.Release(c, channel))
			expectEnded(t, released)
			if !slices.Equal(m.Words, before) {
				t.Errorf("the words are %v, expected %v", m.Words, before)
			}
			m, refused = step(t, m, refused)
			expectEnded(t, refused)
			m, _ = step(t, m, lock.Release(c, channel))
		}
	}
}

// worker is a thread that takes and releases locks, as often as it has turns.
type worker struct {
	channel, turns int
	holds          bool
	frame          api.Frame
}

// state is a moment of some workers.
type state struct {
	memory  api.Memory
	workers []worker
}

// next returns the worker whose machine has ended, with the machine that it needs then.
func (w worker) next(c api.Config) worker {
	w.holds = !w.holds
	if w.holds {
		w.frame = lock.Release(c, w.channel)
		return w
	}
	w.turns--
	w.frame = lock.Take(c, w.channel)
	return w
}

// after returns the state behind a step of a worker.
func (s state) after(t *testing.T, c api.Config, number int) state {
	t.Helper()
	workers := slices.Clone(s.workers)
	m, f := step(t, s.memory, workers[number].frame)
	workers[number].frame = f
	if hasEnded(f) {
		workers[number] = workers[number].next(c)
	}
	return state{m, workers}
}

// checkHolders expects that each lock is held by one worker or by none, as its word says.
func (s state) checkHolders(t *testing.T, c api.Config) {
	t.Helper()
	for channel := range c.Capacities {
		holders := uint64(0)
		for _, w := range s.workers {
			if w.channel == channel && w.holds {
				holders++
			}
		}
		if word := s.memory.Words[layout.Lock(c, channel)]; holders > 1 || word != holders {
			t.Fatalf("lock %d is %d, and %d threads hold it: %+v", channel, word, holders, s)
		}
	}
}

// explore goes through all interleavings of some workers, and returns the number of states and of steps that did not take a lock.
func explore(t *testing.T, c api.Config, workers []worker) (states, refusals int) {
	t.Helper()
	begin := state{first(t, c), workers}
	seen := map[string]bool{}
	todo := []state{begin}
	for len(todo) > 0 {
		s := todo[len(todo)-1]
		todo = todo[:len(todo)-1]
		key := fmt.Sprint(s)
		if seen[key] {
			continue
		}
		seen[key] = true
		s.checkHolders(t, c)
		moves := 0
		for number, w := range s.workers {
			if w.turns == 0 {
				continue
			}
			after := s.after(t, c, number)
			if fmt.Sprint(after) == key {
				refusals++
				continue
			}
			moves++
			todo = append(todo, after)
		}
		if moves == 0 && slices.ContainsFunc(s.workers, func(w worker) bool { return w.turns > 0 }) {
			t.Fatalf("nobody can go on: %+v", s)
		}
	}
	return len(seen), refusals
}

func TestP7_3AtMostOneThreadHoldsALock(t *testing.T) {
	c := starting(last, 2, 0)
	for _, channels := range [][]int{{0}, {1, 1}, {0, 0, 0}, {1, 1, 1, 1}, {0, 1}, {0, 0, 1, 1}} {
		var workers []worker
		crowded := false
		for _, channel := range channels {
			crowded = crowded || slices.ContainsFunc(workers, func(w worker) bool { return w.channel == channel })
			workers = append(workers, worker{channel: channel, turns: 3, frame: lock.Take(c, channel)})
		}
		states, refusals := explore(t, c, workers)
		if crowded != (refusals > 0) || states < 7 {
			t.Errorf("%d threads make %d states with %d refusals", len(channels), states, refusals)
		}
	}
}

func TestMachinesDependOnTheirFramesOnly(t *testing.T) {
	c := starting(0, 2, 0, 1)
	kept := starting(0, 2, 0, 1)
	f := lock.Take(c, 1)
	lock.Take(c, 2)
	lock.Release(c, 0)
	// One frame goes on in several ways, in any order.
	for range 2 {
		expectEnded(t, lock.Resume(f, api.Answer{Ok: true}))
		expectWants(t, lock.Resume(f, api.Answer{Value: 1}), takes(c, 1))
		expectWants(t, f, takes(c, 1))
	}
	if !reflect.DeepEqual(c, kept) {
		t.Errorf("the configuration is now %+v", c)
	}
	if !reflect.DeepEqual(lock.Take(c, 1), f) || !reflect.DeepEqual(lock.Resume(f, api.Answer{}), f) {
		t.Error("a machine that tries again is not the machine that Take returns")
	}
}

func TestArgumentsAreNotModified(t *testing.T) {
	capacities, starts := []int{3, 0, 91, 92}, []uint64{last, 4, 93, 94}
	c := api.Config{Capacities: capacities[:2], Starts: starts[:2], Threads: 2}
	for _, f := range []api.Frame{lock.Take(c, 1), lock.Release(c, 1)} {
		f.Words = append(f.Words, 95, 96)[:1]
		f.List = append(f.List, 97, 98)[:len(f.List)]
		words, list := slices.Clone(f.Words[:2]), slices.Clone(f.List[:cap(f.List)])
		for _, a := range slices.Concat(answers(true), answers(false)) {
			lock.Next(f)
			lock.End(f)
			lock.Resume(f, a)
		}
		if !slices.Equal(f.Words[:2], words) || !slices.Equal(f.List[:cap(f.List)], list) {
			t.Errorf("the frame is now %+v", f)
		}
	}
	if !slices.Equal(capacities, []int{3, 0, 91, 92}) || !slices.Equal(starts, []uint64{last, 4, 93, 94}) {
		t.Errorf("the configuration is now %v and %v", capacities, starts)
	}
}

// strange returns frames that no function of the package returned.
func strange() []api.Frame {
	var list []api.Frame
	numbers := []int{math.MinInt, -1, 0, 1, 2, 3, 4, 5, 1 << 32, math.MaxInt}
	for _, pc := range numbers {
		for _, code := range numbers {
			for _, l := range [][]int{nil, {}, {math.MinInt}, {math.MaxInt}, {0, 1}} {
				list = append(list, api.Frame{Code: code, Pc: pc, List: l}, api.Frame{Code: code, Pc: pc, List: l, Words: []uint64{1}, Up: []api.Frame{{}}})
			}
		}
	}
	return list
}

func TestTotality(t *testing.T) {
	frames := strange()
	configs := append(samples(), api.Config{}, api.Config{Capacities: []int{3}}, api.Config{Starts: []uint64{3}, Threads: math.MinInt},
		api.Config{Capacities: []int{math.MinInt, -1, 17, math.MaxInt}, Starts: []uint64{1 << 63}, Threads: math.MaxInt})
	for _, c := range configs {
		for _, channel := range []int{math.MinInt, -1, 0, 1, 8, 1 << 32, math.MaxInt} {
			frames = append(frames, lock.Take(c, channel), lock.Release(c, channel))
		}
	}
	for _, f := range frames {
		for _, a := range []api.Answer{{}, {Ok: true}, {Value: math.MaxUint64, Late: true, List: []int{-1}}} {
			lock.Next(f)
			lock.End(f)
			lock.Next(lock.Resume(f, a))
			lock.End(lock.Resume(f, a))
		}
	}
}

func Example() {
	c := api.Config{Capacities: []int{2, 0}, Starts: []uint64{0, 0}, Threads: 2}
	m, _ := layout.New(c)
	one, two := lock.Take(c, 1), lock.Take(c, 1)
	m, answer, _ := memory.Apply(m, lock.Next(one))
	one = lock.Resume(one, answer)
	_, answer, _ = memory.Apply(m, lock.Next(two))
	two = lock.Resume(two, answer)
	fmt.Println(lock.End(one))
	fmt.Println(lock.End(two))
	fmt.Println(lock.Next(two) == lock.Next(lock.Take(c, 1)))
	// Output:
	// {1 0} true
	// {0 0} false
	// true
}
