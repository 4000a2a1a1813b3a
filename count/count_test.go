package count_test

import (
	"fmt"
	"math"
	"math/rand"
	"reflect"
	"slices"
	"testing"

	"chanfabric/api"
	"chanfabric/count"
	"chanfabric/layout"
	"chanfabric/memory"
	"chanfabric/pop"
	"chanfabric/push"
	"chanfabric/shut"
)

const last = 1<<63 - 1 // the greatest sequence number

// starting returns a configuration of three threads whose rings all start at the same number.
func starting(start uint64, capacities ...int) api.Config {
	return api.Config{Capacities: capacities, Starts: slices.Repeat([]uint64{start}, len(capacities)), Threads: 3}
}

// samples returns valid configurations.
func samples() []api.Config {
	list := []api.Config{
		starting(0, 0),
		starting(0, 2, 0),
		starting(last, 1, 1, 0, 0, 3),
		starting(7, 16, 16, 16, 16, 16, 16, 16, 16),
		{Capacities: []int{5, 0, 16, 1, 9, 2, 4, 8}, Starts: []uint64{0, 1, last, 1 << 62, 7, last - 3, 1<<62 - 1, 12345678901}, Threads: 8},
	}
	for capacity := 1; capacity <= api.MaxCapacity; capacity++ {
		list = append(list, starting(last-uint64(capacity/2), 0, capacity))
	}
	return list
}

// ring is a channel of a configuration. One with the capacity 0 has a ring too, in which there is never a value.
type ring struct {
	config  api.Config
	channel int
}

// rings returns all rings of the samples.
func rings() []ring {
	var list []ring
	for _, c := range samples() {
		for channel := range c.Capacities {
			list = append(list, ring{c, channel})
		}
	}
	return list
}

func (r ring) capacity() int { return r.config.Capacities[r.channel] }

func (r ring) tail() int { return layout.Tail(r.config, r.channel) }

func (r ring) head() int { return layout.Head(r.config, r.channel) }

// first returns the memory with which a configuration begins.
func first(t *testing.T, c api.Config) api.Memory {
	t.Helper()
	m, errno := layout.New(c)
	if errno != api.OK {
		t.Fatalf("New(%+v) = %d", c, errno)
	}
	return m
}

// expectLoads expects that a machine wants to load a word, and has not ended.
func expectLoads(t *testing.T, f api.Frame, address int) {
	t.Helper()
	if got := count.Next(f); got != (api.Access{Kind: 1, Address: address}) {
		t.Fatalf("Next = %+v, expected a Load of %d", got, address)
	}
	if got, ok := count.End(f); ok || got != (api.Outcome{}) {
		t.Fatalf("End of a machine that wants to load %d = %+v, %v", address, got, ok)
	}
}

// expectNumber expects that a machine has ended with this number, and stays as it is whatever it is answered.
func expectNumber(t *testing.T, f api.Frame, number uint64) {
	t.Helper()
	if got, ok := count.End(f); !ok || got != (api.Outcome{Kind: 9, Value: number}) {
		t.Fatalf("End = %+v, %v, expected the number %d", got, ok, number)
	}
	if got := count.Next(f); got != (api.Access{}) {
		t.Fatalf("Next of a machine that has ended = %+v", got)
	}
	for _, a := range []api.Answer{{}, {Ok: true}, {Value: 1}, {Value: math.MaxUint64, Ok: true, Late: true, List: []int{1}}} {
		if got := count.Resume(f, a); !reflect.DeepEqual(got, f) {
			t.Fatalf("Resume(%+v, %+v) = %+v, and it has ended", f, a, got)
		}
	}
}

// load is a Load that a machine shall make, and the word that is the answer.
type load struct {
	address int
	word    uint64
}

// follow expects that a machine makes these accesses, and returns it behind them.
func follow(t *testing.T, f api.Frame, loads []load) api.Frame {
	t.Helper()
	for _, l := range loads {
		expectLoads(t, f, l.address)
		f = count.Resume(f, api.Answer{Value: l.word})
	}
	return f
}

// TestP11_1Accesses is about channel 0, whose Tail is word 0 and whose Head is word 1. A tail word is twice its sequence number, and one more if it is closed.
func TestP11_1Accesses(t *testing.T) {
	const limit = 1 << 63
	for _, c := range []struct {
		name   string
		number uint64
		loads  []load
	}{
		{"an empty ring", 0, []load{{0, 0}, {1, 0}, {0, 0}}},
		{"an empty ring behind some values", 0, []load{{0, 26}, {1, 13}, {0, 26}}},
		{"an empty ring that is closed", 0, []load{{0, 27}, {1, 13}, {0, 27}}},
		{"one value", 1, []load{{0, 2}, {1, 0}, {0, 2}}},
		{"some values", 5, []load{{0, 36}, {1, 13}, {0, 36}}},
		{"some values in a closed ring", 5, []load{{0, 37}, {1, 13}, {0, 37}}},
		{"an empty ring at the greatest number", 0, []load{{0, last * 2}, {1, last}, {0, last * 2}}},
		{"a closed one", 0, []load{{0, math.MaxUint64}, {1, last}, {0, math.MaxUint64}}},
		{"one value with the greatest number", 1, []load{{0, 0}, {1, last}, {0, 0}}},
		{"one in a closed ring", 1, []load{{0, 1}, {1, last}, {0, 1}}},
		{"values on both sides of the greatest number", 16, []load{{0, 12}, {1, last - 9}, {0, 12}}},
		{"values on both sides of 2^62", 3, []load{{0, limit + 2}, {1, limit/2 - 2}, {0, limit + 2}}},
		{"words far from each other", last - 7, []load{{0, last * 2}, {1, 7}, {0, last * 2}}},
		{"a head that is ahead", last, []load{{0, 8}, {1, 5}, {0, 8}}},
		{"a head that is far ahead", limit / 2, []load{{0, 0}, {1, limit / 2}, {0, 0}}},
		{"a head of 64 bits", 4, []load{{0, 8}, {1, limit}, {0, 8}}},
		{"the greatest word as head", 5, []load{{0, 8}, {1, math.MaxUint64}, {0, 8}}},
		{"a push comes between", 2, []load{{0, 2}, {1, 0}, {0, 4}, {1, 0}, {0, 4}}},
		{"a pop comes between", 3, []load{{0, 8}, {1, 1}, {0, 8}}},
		{"a push and a pop come between", 1, []load{{0, 2}, {1, 0}, {0, 4}, {1, 1}, {0, 4}}},
		{"the ring is closed between", 1, []load{{0, 2}, {1, 0}, {0, 3}, {1, 0}, {0, 3}}},
		{"the number wraps around between", 2, []load{{0, last * 2}, {1, last - 1}, {0, 0}, {1, last - 1}, {0, 0}}},
		{"pushes and pops come between many times", 2, []load{
			{0, 2}, {1, 0}, {0, 4}, {1, 1}, {0, 6}, {1, 2}, {0, 10}, {1, 2}, {0, 12}, {1, 5}, {0, 14}, {1, 5}, {0, 14}}},
		{"the first word comes again", 4, []load{{0, 8}, {1, 0}, {0, 10}, {1, 0}, {0, 8}, {1, 0}, {0, 8}}},
		{"an earlier head comes again", 3, []load{{0, 8}, {1, 2}, {0, 10}, {1, 3}, {0, 12}, {1, 3}, {0, 12}}},
	} {
		t.Run(c.name, func(t *testing.T) {
			for _, capacity := range []int{0, 1, 2, 16} {
				expectNumber(t, follow(t, count.Start(starting(0, capacity, 0), 0), c.loads), c.number)
			}
		})
	}
}

// The words of a channel lie behind those of the channels before it: 5 of each, and 2 for each slot.
func TestP11_1EachChannelHasItsOwnWords(t *testing.T) {
	c := starting(9, 2, 0, 3, 0)
	for channel, tail := range []int{0, 9, 16, 29} {
		f := follow(t, count.Start(c, channel), []load{{tail, 18}, {tail + 1, 9}, {tail, 20}, {tail + 1, 9}, {tail, 20}})
		expectNumber(t, f, 1)
	}
}

// Only the value of an answer counts.
func TestP11_1AnyAnswers(t *testing.T) {
	random := rand.New(rand.NewSource(11))
	answer := func(limit int) api.Answer {
		word := uint64(random.Intn(limit))
		if random.Intn(2) == 0 {
			word = -word
		}
		return api.Answer{Value: word, Ok: random.Intn(2) == 0, Late: random.Intn(2) == 0, List: []int{1}}
	}
	for _, r := range rings() {
		for n := range 40 {
			f := count.Start(r.config, r.channel)
			expectLoads(t, f, r.tail())
			tail, again := answer(n+2), api.Answer{}
			f = count.Resume(f, tail)
			for {
				expectLoads(t, f, r.head())
				head := answer(math.MaxInt)
				f = count.Resume(f, head)
				expectLoads(t, f, r.tail())
				again = answer(n + 2)
				f = count.Resume(f, again)
				if again.Value == tail.Value {
					expectNumber(t, f, (tail.Value>>1-head.Value)&last)
					break
				}
				tail = again
			}
		}
	}
}

// worker is a machine of a package with its functions.
type worker struct {
	frame  api.Frame
	next   func(api.Frame) api.Access
	resume func(api.Frame, api.Answer) api.Frame
	end    func(api.Frame) (api.Outcome, bool)
	role   int
	number int // for a counter: how many values were in the ring when it last loaded Head
}

// Roles of workers.
const (
	pusher = iota
	popper
	closer
	counter
)

func pushes(r ring) worker {
	return worker{push.Start(r.config, r.channel, 77), push.Next, push.Resume, push.End, pusher, 0}
}

func pops(r ring) worker {
	return worker{pop.Start(r.config, r.channel), pop.Next, pop.Resume, pop.End, popper, 0}
}

func closes(r ring) worker {
	return worker{shut.Start(r.config, r.channel), shut.Next, shut.Resume, shut.End, closer, 0}
}

func counts(r ring) worker {
	return worker{count.Start(r.config, r.channel), count.Next, count.Resume, count.End, counter, 0}
}

// state is a moment of some workers, with the number of values that are in the ring: those whose push has taken effect and whose pop has not.
type state struct {
	ring
	memory  api.Memory
	workers []worker
	values  int
}

// step returns the state behind an access of a worker, and the worker behind it.
func (s state) step(t *testing.T, w worker) (state, worker) {
	t.Helper()
	access := w.next(w.frame)
	m, answer, ok := memory.Apply(s.memory, access)
	if !ok {
		t.Fatalf("%+v is not granted", access)
	}
	s.memory, w.frame = m, w.resume(w.frame, answer)
	effect := access.Kind == api.Cas && answer.Ok
	switch {
	case w.role == pusher && effect:
		s.values++
	case w.role == popper && effect:
		s.values--
	case w.role == counter && access.Kind != api.Load:
		t.Fatalf("a count makes the access %+v", access)
	case w.role == counter && access.Address == s.head():
		w.number = s.values
	}
	return s, w
}

// after returns the state behind a step of the worker with this index.
func (s state) after(t *testing.T, index int) state {
	t.Helper()
	next, w := s.step(t, s.workers[index])
	next.workers = slices.Clone(s.workers)
	next.workers[index] = w
	return next
}

// check expects that each count which has ended tells how many values were in the ring when it last loaded Head.
func (s state) check(t *testing.T) {
	t.Helper()
	for _, w := range s.workers {
		outcome, ok := w.end(w.frame)
		if w.role != counter || !ok {
			continue
		}
		if want := (api.Outcome{Kind: api.OutNumber, Value: uint64(w.number)}); outcome != want {
			t.Fatalf("a count has the outcome %+v, expected %+v: %+v", outcome, want, s)
		}
		if outcome.Value > uint64(s.capacity()) {
			t.Fatalf("a count has the outcome %+v, which is more than the capacity: %+v", outcome, s)
		}
	}
}

// run lets a worker go on alone, and returns the state behind its end, its outcome and the number of its accesses.
func (s state) run(t *testing.T, w worker) (state, api.Outcome, int) {
	t.Helper()
	for accesses := range 20 {
		if outcome, ok := w.end(w.frame); ok {
			return s, outcome, accesses
		}
		s, w = s.step(t, w)
	}
	t.Fatalf("a machine that is alone does not end: %+v", w.frame)
	return s, api.Outcome{}, 0
}

// expectCounts expects that a count which is alone ends with the number of values behind three accesses.
func (s state) expectCounts(t *testing.T) {
	t.Helper()
	behind, outcome, accesses := s.run(t, counts(s.ring))
	if outcome != (api.Outcome{Kind: api.OutNumber, Value: uint64(s.values)}) || accesses != 3 {
		t.Fatalf("a count has the outcome %+v behind %d accesses: %+v", outcome, accesses, s)
	}
	if !reflect.DeepEqual(behind.memory, s.memory) {
		t.Fatalf("behind a count the memory is %+v, before it %+v", behind.memory, s.memory)
	}
}

// explore goes through all interleavings of some workers, and returns the number of states and of those in which every worker has ended.
func explore(t *testing.T, begin state) (states, ends int) {
	t.Helper()
	seen := map[string]bool{}
	todo := []state{begin}
	for len(todo) > 0 {
		s := todo[len(todo)-1]
		todo = todo[:len(todo)-1]
		key := fmt.Sprint(s.memory, s.values)
		for _, w := range s.workers {
			key += fmt.Sprint(w.frame, w.number)
		}
		if seen[key] {
			continue
		}
		seen[key] = true
		s.check(t)
		s.expectCounts(t)
		moving := 0
		for index, w := range s.workers {
			if w.next(w.frame) != (api.Access{}) {
				moving++
				todo = append(todo, s.after(t, index))
			}
		}
		if moving == 0 {
			ends++
		}
	}
	return len(seen), ends
}

// crew returns the moment in which pushers, poppers, closers and counters begin, behind pushes that fill a part of the ring.
func crew(t *testing.T, r ring, filled, pushers, poppers, closers, counters int) state {
	t.Helper()
	s := state{ring: r, memory: first(t, r.config)}
	for range filled {
		s = s.done(t, pushes(r), api.OutOk)
	}
	for _, group := range []struct {
		size int
		make func(ring) worker
	}{{pushers, pushes}, {poppers, pops}, {closers, closes}, {counters, counts}} {
		for range group.size {
			s.workers = append(s.workers, group.make(r))
		}
	}
	return s
}

// done returns the state behind a worker that is alone, and expects the kind of its outcome.
func (s state) done(t *testing.T, w worker, kind int) state {
	t.Helper()
	behind, outcome, _ := s.run(t, w)
	if outcome.Kind != kind {
		t.Fatalf("a machine has the outcome %+v, expected the kind %d: %+v", outcome, kind, s)
	}
	return behind
}

func TestP11_2AllInterleavings(t *testing.T) {
	for _, c := range []struct {
		capacity                                    int
		start                                       uint64
		filled, pushers, poppers, closers, counters int
	}{
		{0, 0, 0, 0, 0, 0, 1},
		{0, last, 0, 0, 0, 1, 2},
		{1, 0, 0, 1, 0, 0, 2},
		{1, last, 1, 0, 1, 0, 2},
		{1, last, 0, 1, 1, 1, 1},
		{2, last, 1, 1, 1, 0, 2},
		{2, last, 1, 1, 1, 1, 1},
		{2, 1<<62 - 1, 2, 1, 2, 0, 1},
		{3, last - 1, 1, 2, 1, 0, 1},
		{16, 5, 15, 2, 0, 1, 1},
	} {
		r := ring{starting(c.start, c.capacity, 0), 0}
		begin := crew(t, r, c.filled, c.pushers, c.poppers, c.closers, c.counters)
		if states, ends := explore(t, begin); ends == 0 || states < 4 {
			t.Errorf("%+v has %d states and %d ends", c, states, ends)
		}
	}
}

// Every number of values is counted, also on channels that others surround, and while the ring goes round.
func TestP11_2EveryNumberOfValues(t *testing.T) {
	for _, r := range rings() {
		s := crew(t, r, 0, 0, 0, 0, 0)
		s.expectCounts(t)
		for n := range 3 * r.capacity() {
			if s.values == r.capacity() {
				s = s.done(t, pops(r), api.OutGot)
				s.expectCounts(t)
			}
			s = s.done(t, pushes(r), api.OutOk)
			if want := min(n+1, r.capacity()); s.values != want {
				t.Fatalf("%d values are in the ring, expected %d: %+v", s.values, want, s)
			}
			s.expectCounts(t)
		}
		s = s.done(t, closes(r), api.OutOk)
		s.expectCounts(t)
		for s.values > 0 {
			s = s.done(t, pops(r), api.OutGot)
			s.expectCounts(t)
		}
	}
}

// What happens behind the last Load of Head does not count, unless the tail word tells of it.
func TestP11_2TheMomentOfTheLastLoadOfHead(t *testing.T) {
	r := ring{starting(last, 3, 0), 0}
	s := crew(t, r, 2, 0, 0, 0, 1)
	s = s.after(t, 0)
	s = s.done(t, pushes(r), api.OutOk)
	s = s.after(t, 0)
	s = s.done(t, pops(r), api.OutGot)
	s = s.after(t, 0)
	// The push has changed the tail word: the count loads both words again.
	expectLoads(t, s.workers[0].frame, r.head())
	s = s.done(t, pushes(r), api.OutOk)
	s = s.after(t, 0)
	s = s.done(t, closes(r), api.OutOk)
	s = s.after(t, 0)
	expectLoads(t, s.workers[0].frame, r.head())
	s = s.after(t, 0)
	s = s.done(t, pops(r), api.OutGot)
	s = s.after(t, 0)
	expectNumber(t, s.workers[0].frame, 3)
	if s.values != 2 {
		t.Errorf("%d values are left", s.values)
	}
}

func TestMachinesDependOnTheirFramesOnly(t *testing.T) {
	c := starting(0, 2, 0)
	f := count.Start(c, 0)
	// One frame goes on in several ways, in any order.
	a, b := count.Resume(f, api.Answer{Value: 8}), count.Resume(f, api.Answer{Value: 10})
	a1, a2 := count.Resume(a, api.Answer{Value: 1}), count.Resume(a, api.Answer{Value: 2})
	other := count.Resume(count.Start(c, 1), api.Answer{Value: 6})
	again, ended := count.Resume(a1, api.Answer{Value: 12}), count.Resume(a1, api.Answer{Value: 8})
	expectNumber(t, ended, 3)
	expectNumber(t, follow(t, a1, []load{{0, 8}}), 3)
	expectNumber(t, follow(t, a2, []load{{0, 8}}), 2)
	expectNumber(t, follow(t, again, []load{{1, 2}, {0, 12}}), 4)
	expectNumber(t, follow(t, b, []load{{1, 1}, {0, 10}}), 4)
	expectNumber(t, follow(t, other, []load{{10, 3}, {9, 6}}), 0)
	expectNumber(t, follow(t, a, []load{{1, 4}, {0, 8}}), 0)
	if !reflect.DeepEqual(c, starting(0, 2, 0)) || !reflect.DeepEqual(f, count.Start(c, 0)) {
		t.Errorf("the configuration is now %+v, the frame %+v", c, f)
	}
}

func TestAConfigurationMayChangeBehindStart(t *testing.T) {
	c := starting(0, 2, 1)
	f := count.Start(c, 1)
	c.Capacities[0], c.Capacities[1], c.Starts[1] = 16, 16, 99
	expectNumber(t, follow(t, f, []load{{9, 4}, {10, 1}, {9, 6}, {10, 1}, {9, 6}}), 2)
}

func TestArgumentsAreNotModified(t *testing.T) {
	capacities, starts := []int{3, 0, 91, 92}, []uint64{last, 4, 93, 94}
	c := api.Config{Capacities: capacities[:2], Starts: starts[:2], Threads: 2}
	f := count.Start(c, 1)
	for _, word := range []uint64{8, 3, 10, 4, 12, 5, 12, 14, 0} {
		f.Words = append(slices.Clone(f.Words), 95, 96)[:len(f.Words)]
		f.List = append(slices.Clone(f.List), 97, 98)[:len(f.List)]
		words, list := slices.Clone(f.Words[:cap(f.Words)]), slices.Clone(f.List[:cap(f.List)])
		count.Next(f)
		count.End(f)
		after := count.Resume(f, api.Answer{Value: word})
		if !slices.Equal(f.Words[:cap(f.Words)], words) || !slices.Equal(f.List[:cap(f.List)], list) {
			t.Fatalf("the frame is now %+v", f)
		}
		f = after
	}
	expectNumber(t, f, 1)
	if !slices.Equal(capacities, []int{3, 0, 91, 92}) || !slices.Equal(starts, []uint64{last, 4, 93, 94}) {
		t.Errorf("the configuration is now %v and %v", capacities, starts)
	}
}

// strange returns frames that no function of the package returned.
func strange() []api.Frame {
	list := []api.Frame{{}}
	for _, pc := range []int{math.MinInt, -1, 0, 1, 2, 3, 4, 5, 1 << 32, math.MaxInt} {
		for _, numbers := range [][]int{nil, {math.MinInt}, {math.MaxInt, 2}, {1, 2, 3}} {
			for words := range 4 {
				f := api.Frame{Code: pc, Pc: pc, List: numbers, Words: slices.Repeat([]uint64{math.MaxUint64}, words)}
				list = append(list, f, api.Frame{Pc: f.Pc, List: f.List, Words: make([]uint64, words), Up: []api.Frame{f}})
			}
		}
	}
	return list
}

func TestTotality(t *testing.T) {
	frames := strange()
	configs := append(samples(), api.Config{}, api.Config{Capacities: []int{3}}, api.Config{Starts: []uint64{3}, Threads: math.MinInt},
		api.Config{Capacities: []int{1 << 30}, Starts: []uint64{0}, Threads: 1},
		api.Config{Capacities: []int{math.MinInt, -1, 17, 1 << 30, math.MaxInt}, Starts: []uint64{1 << 63}, Threads: math.MaxInt})
	for _, c := range configs {
		for _, channel := range []int{math.MinInt, -1, 0, 1, 2, 3, 8, 1 << 32, math.MaxInt} {
			frames = append(frames, count.Start(c, channel))
		}
	}
	for _, f := range frames {
		for _, a := range []api.Answer{{}, {Ok: true}, {Value: 2}, {Value: math.MaxUint64, Late: true, List: []int{-1}}} {
			g := f
			for range 5 {
				count.Next(g)
				// R4: beside false there is no outcome, whatever the frame is.
				if got, ok := count.End(g); !ok && got != (api.Outcome{}) {
					t.Fatalf("End(%+v) = %+v, %v", g, got, ok)
				}
				g = count.Resume(g, a)
			}
		}
	}
}

func Example() {
	c := api.Config{Capacities: []int{3, 0}, Starts: []uint64{last, 0}, Threads: 2}
	m, _ := layout.New(c)
	for value := range uint64(3) {
		f := push.Start(c, 0, value)
		for push.Next(f) != (api.Access{}) {
			after, answer, _ := memory.Apply(m, push.Next(f))
			m, f = after, push.Resume(f, answer)
		}
		accesses := 0
		f = count.Start(c, 0)
		for count.Next(f) != (api.Access{}) && accesses < 20 {
			_, answer, _ := memory.Apply(m, count.Next(f))
			f = count.Resume(f, answer)
			accesses++
		}
		outcome, _ := count.End(f)
		fmt.Println(outcome.Kind == api.OutNumber, outcome.Value, accesses)
	}
	// Output:
	// true 1 3
	// true 2 3
	// true 3 3
}
