package shut_test

import (
	"fmt"
	"math"
	"math/rand"
	"reflect"
	"slices"
	"testing"

	"chanfabric/api"
	"chanfabric/layout"
	"chanfabric/memory"
	"chanfabric/pop"
	"chanfabric/push"
	"chanfabric/shut"
)

const last = 1<<63 - 1 // the greatest sequence number

// starting returns a configuration of three threads whose rings all start at the same number.
func starting(start uint64, capacities ...int) api.Config {
	return api.Config{Capacities: capacities, Starts: slices.Repeat([]uint64{start}, len(capacities)), Threads: 3}
}

// samples returns valid configurations.
func samples() []api.Config {
	list := []api.Config{
		starting(0, 0),
		starting(0, 2, 0),
		starting(last, 1, 1, 0, 0, 3),
		starting(7, 16, 16, 16, 16, 16, 16, 16, 16),
		{Capacities: []int{5, 0, 16, 1, 9, 2, 4, 8}, Starts: []uint64{0, 1, last, 1 << 62, 7, last - 3, 1<<62 - 1, 12345678901}, Threads: 8},
	}
	for capacity := 1; capacity <= api.MaxCapacity; capacity++ {
		list = append(list, starting(last-uint64(capacity/2), 0, capacity))
	}
	return list
}

// ring is a channel of a configuration. One with the capacity 0 has a ring too, which nobody uses, and its tail word.
type ring struct {
	config  api.Config
	channel int
}

// rings returns all rings of the samples.
func rings() []ring {
	var list []ring
	for _, c := range samples() {
		for channel := range c.Capacities {
			list = append(list, ring{c, channel})
		}
	}
	return list
}

func (r ring) capacity() int { return r.config.Capacities[r.channel] }

func (r ring) start() uint64 { return r.config.Starts[r.channel] }

func (r ring) tail() int { return layout.Tail(r.config, r.channel) }

func (r ring) shut() api.Frame { return shut.Start(r.config, r.channel) }

// first returns the memory with which a configuration begins.
func first(t *testing.T, c api.Config) api.Memory {
	t.Helper()
	m, errno := layout.New(c)
	if errno != api.OK {
		t.Fatalf("New(%+v) = %d", c, errno)
	}
	return m
}

// expectWants expects that a machine wants an access, and has not ended.
func expectWants(t *testing.T, f api.Frame, want api.Access) {
	t.Helper()
	if got := shut.Next(f); got != want {
		t.Fatalf("Next = %+v, expected %+v", got, want)
	}
	if got, ok := shut.End(f); ok || got != (api.Outcome{}) {
		t.Fatalf("End of a machine that wants %+v = %+v, %v", want, got, ok)
	}
}

// expectEnded expects that a machine has ended with an outcome of this kind, and stays as it is whatever it is answered.
func expectEnded(t *testing.T, f api.Frame, kind int) {
	t.Helper()
	if got, ok := shut.End(f); !ok || got != (api.Outcome{Kind: kind}) {
		t.Fatalf("End = %+v, %v, expected the kind %d", got, ok, kind)
	}
	if got := shut.Next(f); got != (api.Access{}) {
		t.Fatalf("Next of a machine that has ended = %+v", got)
	}
	for _, a := range []api.Answer{{}, {Ok: true}, {Value: 1}, {Value: math.MaxUint64, Ok: true, Late: true, List: []int{1}}} {
		if got := shut.Resume(f, a); !reflect.DeepEqual(got, f) {
			t.Fatalf("Resume(%+v, %+v) = %+v, and it has ended", f, a, got)
		}
	}
}

// exchange is an access that a machine shall want, and the answer to it.
type exchange struct {
	access api.Access
	answer api.Answer
}

func load(address int, value uint64) exchange {
	return exchange{api.Access{Kind: 1, Address: address}, api.Answer{Value: value}}
}

func swap(address int, from, to uint64, ok bool) exchange {
	return exchange{api.Access{Kind: 3, Address: address, Old: from, New: to}, api.Answer{Value: from, Ok: ok}}
}

// follow expects that a machine makes these accesses, and returns it behind them.
func follow(t *testing.T, f api.Frame, steps []exchange) api.Frame {
	t.Helper()
	for _, s := range steps {
		expectWants(t, f, s.access)
		f = shut.Resume(f, s.answer)
	}
	return f
}

// TestP10_1Accesses is about channel 0, whose Tail is word 0. A tail word is twice its sequence number, and one more if it is closed.
func TestP10_1Accesses(t *testing.T) {
	const ok, closed = 1, 4
	for _, c := range []struct {
		name  string
		kind  int
		steps []exchange
	}{
		{"an open channel", ok, []exchange{load(0, 0), swap(0, 0, 1, true)}},
		{"an open channel behind some pushes", ok, []exchange{load(0, 26), swap(0, 26, 27, true)}},
		{"the greatest sequence number", ok, []exchange{load(0, last*2), swap(0, last*2, math.MaxUint64, true)}},
		{"a sequence number of 63 bits", ok, []exchange{load(0, 1<<63), swap(0, 1<<63, 1<<63+1, true)}},
		{"a closed channel", closed, []exchange{load(0, 1)}},
		{"a closed channel behind some pushes", closed, []exchange{load(0, 27)}},
		{"a closed channel with the greatest sequence number", closed, []exchange{load(0, math.MaxUint64)}},
		{"a push comes between", ok, []exchange{
			load(0, 0), swap(0, 0, 1, false), load(0, 2), swap(0, 2, 3, true)}},
		{"a push comes between, and the number wraps around", ok, []exchange{
			load(0, last*2), swap(0, last*2, math.MaxUint64, false), load(0, 0), swap(0, 0, 1, true)}},
		{"the Cas is not Ok with the same word", ok, []exchange{
			load(0, 8), swap(0, 8, 9, false), load(0, 8), swap(0, 8, 9, true)}},
		{"pushes come between many times", ok, []exchange{
			load(0, 0), swap(0, 0, 1, false), load(0, 2), swap(0, 2, 3, false), load(0, 4), swap(0, 4, 5, false),
			load(0, 10), swap(0, 10, 11, false), load(0, 12), swap(0, 12, 13, true)}},
		{"another close comes between", closed, []exchange{
			load(0, 0), swap(0, 0, 1, false), load(0, 1)}},
		{"a push and another close come between", closed, []exchange{
			load(0, 6), swap(0, 6, 7, false), load(0, 8), swap(0, 8, 9, false), load(0, 9)}},
	} {
		t.Run(c.name, func(t *testing.T) {
			for _, capacity := range []int{0, 1, 2, 16} {
				expectEnded(t, follow(t, shut.Start(starting(0, capacity, 0), 0), c.steps), c.kind)
			}
		})
	}
}

// The words of a channel lie behind those of the channels before it: 5 of each, and 2 for each slot.
func TestP10_1EachChannelHasItsOwnTail(t *testing.T) {
	c := starting(9, 2, 0, 3, 0)
	for channel, tail := range []int{0, 9, 16, 29} {
		f := follow(t, shut.Start(c, channel), []exchange{load(tail, 18), swap(tail, 18, 19, false), load(tail, 20), swap(tail, 20, 21, true)})
		expectEnded(t, f, api.OutOk)
	}
}

// Only the Ok of a Cas and the value of a Load count.
func TestP10_1AnyAnswers(t *testing.T) {
	random := rand.New(rand.NewSource(10))
	for _, r := range rings() {
		for range 40 {
			f := r.shut()
			for {
				word := random.Uint64()
				expectWants(t, f, api.Access{Kind: api.Load, Address: r.tail()})
				f = shut.Resume(f, api.Answer{Value: word, Ok: random.Intn(2) == 0, Late: random.Intn(2) == 0, List: []int{1}})
				if word%2 == 1 {
					expectEnded(t, f, api.OutClosed)
					break
				}
				expectWants(t, f, api.Access{Kind: api.Cas, Address: r.tail(), Old: word, New: word + 1})
				a := api.Answer{Value: random.Uint64(), Ok: random.Intn(3) == 0, Late: random.Intn(2) == 0, List: []int{1}}
				f = shut.Resume(f, a)
				if a.Ok {
					expectEnded(t, f, api.OutOk)
					break
				}
			}
		}
	}
}

// worker is a machine of a package with its functions.
type worker struct {
	frame  api.Frame
	next   func(api.Frame) api.Access
	resume func(api.Frame, api.Answer) api.Frame
	end    func(api.Frame) (api.Outcome, bool)
	role   int
}

// Roles of workers.
const (
	pusher = iota
	popper
	closer
)

func pushes(r ring, value uint64) worker {
	return worker{push.Start(r.config, r.channel, value), push.Next, push.Resume, push.End, pusher}
}

func pops(r ring) worker {
	return worker{pop.Start(r.config, r.channel), pop.Next, pop.Resume, pop.End, popper}
}

func closes(r ring) worker {
	return worker{r.shut(), shut.Next, shut.Resume, shut.End, closer}
}

// state is a moment of some workers, with the values whose push has taken effect, in the order of these moments, the number of pops that have taken effect, and whether a close has.
type state struct {
	ring
	memory  api.Memory
	workers []worker
	pushed  []uint64
	popped  int
	closed  bool
}

// after returns the state behind a step of a worker.
func (s state) after(t *testing.T, number int) state {
	t.Helper()
	w := s.workers[number]
	access := w.next(w.frame)
	m, answer, ok := memory.Apply(s.memory, access)
	if !ok {
		t.Fatalf("%+v is not granted", access)
	}
	w.frame = w.resume(w.frame, answer)
	s.memory, s.workers = m, slices.Clone(s.workers)
	s.workers[number] = w
	if access.Kind != api.Cas || !answer.Ok {
		return s
	}
	switch w.role {
	case pusher:
		if s.closed {
			t.Fatalf("a push takes effect behind the close: %+v", s)
		}
		s.pushed = append(slices.Clone(s.pushed), uint64(number))
	case popper:
		s.popped++
	case closer:
		if s.closed {
			t.Fatalf("a close takes effect twice: %+v", s)
		}
		if outcome, ended := w.end(w.frame); !ended || outcome.Kind != api.OutOk {
			t.Fatalf("behind its Cas a close has the outcome %+v, %v", outcome, ended)
		}
		s.closed = true
	}
	return s
}

// check expects that the tail word tells what took effect, and that a close that ends with OutClosed is not the first.
func (s state) check(t *testing.T) {
	t.Helper()
	want := (s.start() + uint64(len(s.pushed))) * 2
	if s.closed {
		want++
	}
	if got := s.memory.Words[s.tail()]; got != want {
		t.Fatalf("the tail word is %d, expected %d: %+v", got, want, s)
	}
	closed := 0
	for _, w := range s.workers {
		switch outcome, _ := w.end(w.frame); outcome.Kind {
		case api.OutClosed, api.OutDrained:
			if !s.closed {
				t.Fatalf("the outcome is %+v before a close: %+v", outcome, s)
			}
		case api.OutOk:
			if w.role == closer {
				closed++
			}
		}
	}
	if (closed == 1) != s.closed || closed > 1 {
		t.Fatalf("%d machines have closed the channel: %+v", closed, s)
	}
}

// checkRest expects that behind the last step the values that are left can be taken in their order, and that then the ring is drained if there was a close.
func (s state) checkRest(t *testing.T) {
	t.Helper()
	for _, value := range s.pushed[s.popped:] {
		want := api.Outcome{Kind: api.OutGot, Value: value}
		if got := s.run(t, pops(s.ring)); got != want {
			t.Fatalf("a pop behind the end has the outcome %+v, expected %+v: %+v", got, want, s)
		}
	}
	if s.capacity() > 0 && s.closed {
		if got := s.run(t, pops(s.ring)); got != (api.Outcome{Kind: api.OutDrained}) {
			t.Fatalf("a pop behind the last one has the outcome %+v: %+v", got, s)
		}
		if got := s.run(t, pushes(s.ring, 5)); got != (api.Outcome{Kind: api.OutClosed}) {
			t.Fatalf("a push behind the close has the outcome %+v: %+v", got, s)
		}
	}
}

// run makes all accesses of a machine that is alone, and returns its outcome.
func (s *state) run(t *testing.T, w worker) api.Outcome {
	t.Helper()
	for range 20 {
		if outcome, ok := w.end(w.frame); ok {
			return outcome
		}
		m, answer, ok := memory.Apply(s.memory, w.next(w.frame))
		if !ok {
			t.Fatalf("%+v is not granted", w.next(w.frame))
		}
		s.memory, w.frame = m, w.resume(w.frame, answer)
	}
	t.Fatalf("a machine that is alone does not end: %+v", w.frame)
	return api.Outcome{}
}

// explore goes through all interleavings of some workers, and returns the number of states and of those in which every worker has ended.
func explore(t *testing.T, begin state) (states, ends int) {
	t.Helper()
	seen := map[string]bool{}
	todo := []state{begin}
	for len(todo) > 0 {
		s := todo[len(todo)-1]
		todo = todo[:len(todo)-1]
		key := fmt.Sprint(s.memory, s.pushed, s.popped, s.closed)
		for _, w := range s.workers {
			key += fmt.Sprint(w.frame)
		}
		if seen[key] {
			continue
		}
		seen[key] = true
		s.check(t)
		moving := 0
		for number, w := range s.workers {
			if w.next(w.frame) != (api.Access{}) {
				moving++
				todo = append(todo, s.after(t, number))
			}
		}
		if moving == 0 {
			ends++
			s.checkRest(t)
		}
	}
	return len(seen), ends
}

// crew returns the moment in which pushers, poppers and closers begin, behind pushes that fill a part of the ring. Each pusher adds its own number.
func crew(t *testing.T, r ring, filled, pushers, poppers, closers int) state {
	t.Helper()
	s := state{ring: r, memory: first(t, r.config)}
	for n := range filled {
		value := uint64(100 + n)
		if got := s.run(t, pushes(r, value)); got.Kind != api.OutOk {
			t.Fatalf("the push of %d has the outcome %+v", value, got)
		}
		s.pushed = append(s.pushed, value)
	}
	for n := range pushers {
		s.workers = append(s.workers, pushes(r, uint64(n)))
	}
	for range poppers {
		s.workers = append(s.workers, pops(r))
	}
	for range closers {
		s.workers = append(s.workers, closes(r))
	}
	return s
}

func TestP10_2AllInterleavings(t *testing.T) {
	for _, c := range []struct {
		capacity                          int
		start                             uint64
		filled, pushers, poppers, closers int
	}{
		{0, 0, 0, 0, 0, 1},
		{0, last, 0, 0, 0, 4},
		{1, 0, 0, 0, 0, 3},
		{2, last, 0, 1, 0, 1},
		{1, last, 1, 0, 1, 2},
		{2, last, 0, 1, 1, 2},
		{2, last - 1, 0, 2, 0, 2},
		{3, 5, 1, 2, 0, 3},
		{1, last, 0, 2, 1, 1},
		{2, 1<<62 - 1, 2, 1, 1, 2},
		{2, last, 1, 1, 2, 1},
	} {
		begin := crew(t, ring{starting(c.start, c.capacity, 0), 0}, c.filled, c.pushers, c.poppers, c.closers)
		if states, ends := explore(t, begin); ends == 0 || states < 3 {
			t.Errorf("%+v has %d states and %d ends", c, states, ends)
		}
	}
}

// Every number of values can be in the ring when the channel is closed, also on channels that others surround.
func TestP10_2WhatWasPushedBeforeCanBePopped(t *testing.T) {
	for _, r := range rings() {
		for filled := range r.capacity() + 1 {
			s := crew(t, r, filled, 0, 0, 0)
			want := slices.Clone(s.memory.Words)
			want[r.tail()]++
			if got := s.run(t, closes(r)); got != (api.Outcome{Kind: api.OutOk}) {
				t.Fatalf("a close of %+v with %d values has the outcome %+v", r, filled, got)
			}
			for range 3 {
				if got := s.run(t, closes(r)); got != (api.Outcome{Kind: api.OutClosed}) {
					t.Fatalf("another close of %+v with %d values has the outcome %+v", r, filled, got)
				}
			}
			if !slices.Equal(s.memory.Words, want) {
				t.Fatalf("behind the close of %+v the words are %v, expected %v", r, s.memory.Words, want)
			}
			s.closed = true
			s.checkRest(t)
		}
	}
}

// A machine that others keep from its Cas closes the channel as soon as they leave it alone.
func TestP10_2APushBeforeTheCasCounts(t *testing.T) {
	r := ring{starting(last, 3, 0), 0}
	s := crew(t, r, 0, 0, 0, 1)
	for n := range 3 {
		s = s.after(t, 0)
		value := uint64(200 + n)
		if got := s.run(t, pushes(r, value)); got.Kind != api.OutOk {
			t.Fatalf("the push of %d has the outcome %+v", value, got)
		}
		s.pushed = append(s.pushed, value)
		s = s.after(t, 0)
		s.check(t)
	}
	if got := s.run(t, s.workers[0]); got.Kind != api.OutOk {
		t.Fatalf("the close has the outcome %+v", got)
	}
	s.closed = true
	s.checkRest(t)
}

func TestMachinesDependOnTheirFramesOnly(t *testing.T) {
	c := starting(0, 2, 0)
	f := shut.Start(c, 0)
	// One frame goes on in several ways, in any order.
	a, b := shut.Resume(f, api.Answer{Value: 2}), shut.Resume(f, api.Answer{Value: 4})
	other := shut.Resume(shut.Start(c, 1), api.Answer{Value: 6})
	ended := shut.Resume(f, api.Answer{Value: 5})
	again, done := shut.Resume(a, api.Answer{}), shut.Resume(a, api.Answer{Ok: true})
	a2, a3 := shut.Resume(again, api.Answer{Value: 8}), shut.Resume(again, api.Answer{Value: 10})
	for frame, want := range map[*api.Frame]api.Access{
		&f: load(0, 0).access, &again: load(0, 0).access,
		&a: swap(0, 2, 3, true).access, &b: swap(0, 4, 5, true).access,
		&a2: swap(0, 8, 9, true).access, &a3: swap(0, 10, 11, true).access,
		&other: swap(9, 6, 7, true).access,
	} {
		expectWants(t, *frame, want)
	}
	expectEnded(t, ended, api.OutClosed)
	expectEnded(t, done, api.OutOk)
	if !reflect.DeepEqual(c, starting(0, 2, 0)) || !reflect.DeepEqual(f, shut.Start(c, 0)) {
		t.Errorf("the configuration is now %+v, the frame %+v", c, f)
	}
}

func TestAConfigurationMayChangeBehindStart(t *testing.T) {
	c := starting(0, 2, 1)
	f := shut.Start(c, 1)
	c.Capacities[0], c.Capacities[1], c.Starts[1] = 16, 16, 99
	expectEnded(t, follow(t, f, []exchange{load(9, 4), swap(9, 4, 5, false), load(9, 6), swap(9, 6, 7, true)}), api.OutOk)
}

func TestArgumentsAreNotModified(t *testing.T) {
	capacities, starts := []int{3, 0, 91, 92}, []uint64{last, 4, 93, 94}
	c := api.Config{Capacities: capacities[:2], Starts: starts[:2], Threads: 2}
	f := shut.Start(c, 1)
	for _, a := range []api.Answer{{Value: 8}, {}, {Value: 10}, {Value: 10}, {Value: 12}, {Ok: true}, {}} {
		f.Words = append(slices.Clone(f.Words), 95, 96)[:len(f.Words)]
		f.List = append(slices.Clone(f.List), 97, 98)[:len(f.List)]
		words, list := slices.Clone(f.Words[:cap(f.Words)]), slices.Clone(f.List[:cap(f.List)])
		shut.Next(f)
		shut.End(f)
		after := shut.Resume(f, a)
		if !slices.Equal(f.Words[:cap(f.Words)], words) || !slices.Equal(f.List[:cap(f.List)], list) {
			t.Fatalf("the frame is now %+v", f)
		}
		f = after
	}
	if outcome, ok := shut.End(f); !ok || outcome.Kind != api.OutOk {
		t.Errorf("the machine has the outcome %+v, %v", outcome, ok)
	}
	if !slices.Equal(capacities, []int{3, 0, 91, 92}) || !slices.Equal(starts, []uint64{last, 4, 93, 94}) {
		t.Errorf("the configuration is now %v and %v", capacities, starts)
	}
}

// strange returns frames that no function of the package returned.
func strange() []api.Frame {
	list := []api.Frame{{}}
	for _, pc := range []int{math.MinInt, -1, 0, 1, 2, 3, 4, 5, 1 << 32, math.MaxInt} {
		for _, numbers := range [][]int{nil, {math.MinInt}, {math.MaxInt, 2}, {1, 2, 3}} {
			for words := range 4 {
				f := api.Frame{Code: pc, Pc: pc, List: numbers, Words: slices.Repeat([]uint64{math.MaxUint64}, words)}
				list = append(list, f, api.Frame{Pc: f.Pc, List: f.List, Words: make([]uint64, words), Up: []api.Frame{f}})
			}
		}
	}
	return list
}

func TestTotality(t *testing.T) {
	frames := strange()
	configs := append(samples(), api.Config{}, api.Config{Capacities: []int{3}}, api.Config{Starts: []uint64{3}, Threads: math.MinInt},
		api.Config{Capacities: []int{1 << 30}, Starts: []uint64{0}, Threads: 1},
		api.Config{Capacities: []int{math.MinInt, -1, 17, 1 << 30, math.MaxInt}, Starts: []uint64{1 << 63}, Threads: math.MaxInt})
	for _, c := range configs {
		for _, channel := range []int{math.MinInt, -1, 0, 1, 2, 3, 8, 1 << 32, math.MaxInt} {
			frames = append(frames, shut.Start(c, channel))
		}
	}
	for _, f := range frames {
		for _, a := range []api.Answer{{}, {Ok: true}, {Value: 2}, {Value: math.MaxUint64, Late: true, List: []int{-1}}} {
			g := f
			for range 5 {
				shut.Next(g)
				shut.End(g)
				g = shut.Resume(g, a)
			}
		}
	}
}

func Example() {
	c := api.Config{Capacities: []int{1, 0}, Starts: []uint64{4, 0}, Threads: 2}
	m, _ := layout.New(c)
	for range 2 {
		accesses := 0
		f := shut.Start(c, 0)
		for shut.Next(f) != (api.Access{}) {
			after, answer, _ := memory.Apply(m, shut.Next(f))
			m, f = after, shut.Resume(f, answer)
			accesses++
		}
		outcome, _ := shut.End(f)
		fmt.Println(outcome.Kind == api.OutOk, outcome.Kind == api.OutClosed, accesses)
	}
	// Output:
	// true false 2
	// false true 1
}
