package pop_test

import (
	"fmt"
	"math"
	"math/rand"
	"reflect"
	"slices"
	"testing"

	"chanfabric/api"
	"chanfabric/layout"
	"chanfabric/memory"
	"chanfabric/pop"
	"chanfabric/push"
)

const (
	last = 1<<63 - 1 // the greatest sequence number
	top  = 1 << 63   // the bit that a sequence number does not have
)

// starting returns a configuration of three threads whose rings all start at the same number.
func starting(start uint64, capacities ...int) api.Config {
	return api.Config{Capacities: capacities, Starts: slices.Repeat([]uint64{start}, len(capacities)), Threads: 3}
}

// samples returns valid configurations.
func samples() []api.Config {
	list := []api.Config{
		starting(0, 2, 0),
		starting(last, 1, 1, 0, 0, 3),
		starting(7, 16, 16, 16, 16, 16, 16, 16, 16),
		{Capacities: []int{5, 0, 16, 1, 9, 2, 4, 8}, Starts: []uint64{0, 1, last, 1 << 62, 7, last - 3, 1<<62 - 1, 12345678901}, Threads: 8},
	}
	for capacity := 1; capacity <= api.MaxCapacity; capacity++ {
		list = append(list, starting(last-uint64(capacity/2), 0, capacity))
	}
	return list
}

// ring is a channel with a capacity greater than 0.
type ring struct {
	config  api.Config
	channel int
}

// rings returns all rings of the samples.
func rings() []ring {
	var list []ring
	for _, c := range samples() {
		for channel, capacity := range c.Capacities {
			if capacity > 0 {
				list = append(list, ring{c, channel})
			}
		}
	}
	return list
}

func (r ring) capacity() int { return r.config.Capacities[r.channel] }

func (r ring) start() uint64 { return r.config.Starts[r.channel] }

// size returns the number of slots, as chapter 1 gives it.
func (r ring) size() uint64 {
	return []uint64{1, 2, 2, 4, 4, 8, 8, 8, 8, 16, 16, 16, 16, 16, 16, 16, 16}[r.capacity()]
}

func (r ring) tail() int { return layout.Tail(r.config, r.channel) }

func (r ring) head() int { return layout.Head(r.config, r.channel) }

func (r ring) slotSeq(seq uint64) int { return layout.SlotSeq(r.config, r.channel, seq) }

func (r ring) slotValue(seq uint64) int { return layout.SlotValue(r.config, r.channel, seq) }

// first returns the memory with which a configuration begins.
func first(t *testing.T, c api.Config) api.Memory {
	t.Helper()
	m, errno := layout.New(c)
	if errno != api.OK {
		t.Fatalf("New(%+v) = %d", c, errno)
	}
	return m
}

// wrap returns a number modulo 2^63.
func wrap(n uint64) uint64 { return n &^ top }

// expectWants expects that a machine wants an access, and has not ended.
func expectWants(t *testing.T, f api.Frame, want api.Access) {
	t.Helper()
	if got := pop.Next(f); got != want {
		t.Fatalf("Next = %+v, expected %+v", got, want)
	}
	if got, ok := pop.End(f); ok || got != (api.Outcome{}) {
		t.Fatalf("End of a machine that wants %+v = %+v, %v", want, got, ok)
	}
}

// expectEnded expects that a machine has ended with an outcome, and stays as it is whatever it is answered.
func expectEnded(t *testing.T, f api.Frame, want api.Outcome) {
	t.Helper()
	if got, ok := pop.End(f); !ok || got != want {
		t.Fatalf("End = %+v, %v, expected %+v", got, ok, want)
	}
	if got := pop.Next(f); got != (api.Access{}) {
		t.Fatalf("Next of a machine that has ended = %+v", got)
	}
	for _, a := range []api.Answer{{}, {Ok: true}, {Value: 1}, {Value: math.MaxUint64, Ok: true, Late: true, List: []int{1}}} {
		if got := pop.Resume(f, a); !reflect.DeepEqual(got, f) {
			t.Fatalf("Resume(%+v, %+v) = %+v, and it has ended", f, a, got)
		}
	}
}

var (
	empty   = api.Outcome{Kind: api.OutEmpty}
	drained = api.Outcome{Kind: api.OutDrained}
)

func got(value uint64) api.Outcome { return api.Outcome{Kind: api.OutGot, Value: value} }

// exchange is an access that a machine shall want, and the answer to it.
type exchange struct {
	access api.Access
	answer api.Answer
}

func load(address int, value uint64) exchange {
	return exchange{api.Access{Kind: 1, Address: address}, api.Answer{Value: value}}
}

func swap(address int, from, to uint64, ok bool) exchange {
	return exchange{api.Access{Kind: 3, Address: address, Old: from, New: to}, api.Answer{Value: from, Ok: ok}}
}

func read(address int, value uint64) exchange {
	return exchange{api.Access{Kind: 5, Address: address}, api.Answer{Value: value}}
}

func store(address int, value uint64) exchange {
	return exchange{api.Access{Kind: 2, Address: address, New: value}, api.Answer{}}
}

// follow expects that a machine makes these accesses, and returns it behind them.
func follow(t *testing.T, f api.Frame, steps []exchange) api.Frame {
	t.Helper()
	for _, s := range steps {
		expectWants(t, f, s.access)
		f = pop.Resume(f, s.answer)
	}
	return f
}

// TestP9_1Accesses is about channel 0 with the capacity 2: Tail is word 0, Head word 1, and the slots have the words 5, 6 and 7, 8. A tail word is twice its sequence number, and one more if it is closed.
func TestP9_1Accesses(t *testing.T) {
	for _, c := range []struct {
		name  string
		out   api.Outcome
		steps []exchange
	}{
		{"a ring with one value", got(77), []exchange{
			load(1, 0), load(0, 2), load(5, 1), swap(1, 0, 1, true), read(6, 77), store(5, 2)}},
		{"a full ring", got(78), []exchange{
			load(1, 0), load(0, 4), load(5, 1), swap(1, 0, 1, true), read(6, 78), store(5, 2)}},
		{"a value in the other slot", got(0), []exchange{
			load(1, 1), load(0, 4), load(7, 2), swap(1, 1, 2, true), read(8, 0), store(7, 3)}},
		{"the greatest value", got(math.MaxUint64), []exchange{
			load(1, 12), load(0, 26), load(5, 13), swap(1, 12, 13, true), read(6, math.MaxUint64), store(5, 14)}},
		{"a closed ring with a value", got(5), []exchange{
			load(1, 0), load(0, 3), load(5, 1), swap(1, 0, 1, true), read(6, 5), store(5, 2)}},
		{"the numbers wrap around", got(5), []exchange{
			load(1, last), load(0, 0), load(7, 0), swap(1, last, 0, true), read(8, 5), store(7, 1)}},
		{"the numbers wrap around, and the ring is full", got(5), []exchange{
			load(1, last), load(0, 2), load(7, 0), swap(1, last, 0, true), read(8, 5), store(7, 1)}},
		{"the slot is free for a number behind the greatest", got(5), []exchange{
			load(1, last-1), load(0, last*2), load(5, last), swap(1, last-1, last, true), read(6, 5), store(5, 0)}},
		{"an empty ring", empty, []exchange{
			load(1, 0), load(0, 0), load(1, 0)}},
		{"an empty ring with other numbers", empty, []exchange{
			load(1, last), load(0, last*2), load(1, last)}},
		{"a closed ring without values", drained, []exchange{
			load(1, 0), load(0, 1), load(1, 0)}},
		{"a closed ring with other numbers, without values", drained, []exchange{
			load(1, last), load(0, math.MaxUint64), load(1, last)}},
		{"Head moves on while the ring is empty", empty, []exchange{
			load(1, 0), load(0, 0), load(1, 2), load(0, 4), load(1, 2)}},
		{"Head moves on while the ring is empty, and there is a value", got(9), []exchange{
			load(1, 0), load(0, 0), load(1, 1), load(0, 4), load(7, 2), swap(1, 1, 2, true), read(8, 9), store(7, 3)}},
		{"Head moves on twice while the ring is empty", drained, []exchange{
			load(1, 0), load(0, 0), load(1, 1), load(0, 2), load(1, 2), load(0, 5), load(1, 2)}},
		{"Head moves on while the closed ring is empty, and the ring is not closed", empty, []exchange{
			load(1, 0), load(0, 1), load(1, 1), load(0, 2), load(1, 1)}},
		{"H is out of date by one", empty, []exchange{
			load(1, 0), load(0, 6), load(1, 3), load(0, 6), load(1, 3)}},
		{"H is out of date by more than the capacity", got(4), []exchange{
			load(1, 0), load(0, 60), load(1, 29), load(0, 60), load(7, 30), swap(1, 29, 30, true), read(8, 4), store(7, 31)}},
		{"H is before T", drained, []exchange{
			load(1, 3), load(0, 4), load(1, 2), load(0, 5), load(1, 2)}},
		{"Head moves on while the ring is empty, and is out of date", empty, []exchange{
			load(1, 0), load(0, 0), load(1, 1), load(0, 8), load(1, 4), load(0, 8), load(1, 4)}},
		{"the value is not yet there", got(3), []exchange{
			load(1, 0), load(0, 2), load(5, 0), load(1, 0), load(0, 2), load(5, 1), swap(1, 0, 1, true), read(6, 3), store(5, 2)}},
		{"another pop has taken the value", empty, []exchange{
			load(1, 0), load(0, 2), load(5, 2), load(1, 1), load(0, 2), load(1, 1)}},
		{"the slot contains a later value", drained, []exchange{
			load(1, 0), load(0, 2), load(5, 3), load(1, 3), load(0, 7), load(1, 3)}},
		{"the Cas is not Ok", got(8), []exchange{
			load(1, 0), load(0, 4), load(5, 1), swap(1, 0, 1, false), load(1, 1), load(0, 4), load(7, 2), swap(1, 1, 2, true), read(8, 8), store(7, 3)}},
		{"the Cas is not Ok, and then the ring is empty", empty, []exchange{
			load(1, 0), load(0, 2), load(5, 1), swap(1, 0, 1, false), load(1, 1), load(0, 2), load(1, 1)}},
		{"the Cas is not Ok, and then the ring is empty and closed", drained, []exchange{
			load(1, 0), load(0, 2), load(5, 1), swap(1, 0, 1, false), load(1, 1), load(0, 3), load(1, 1)}},
	} {
		t.Run(c.name, func(t *testing.T) {
			expectEnded(t, follow(t, pop.Start(starting(0, 2, 0), 0), c.steps), c.out)
		})
	}
}

// A ring with the capacity 1 has two slots, and one with the capacity 3 has four: it is the number of slots that the sequence word goes up by.
func TestP9_1TheSlotBecomesFreeForTheNextRound(t *testing.T) {
	c := starting(9, 1, 0, 3)
	// Channel 0 has the words from 0 on, with its slots at 5 and 7.
	f := follow(t, pop.Start(c, 0), []exchange{load(1, 9), load(0, 20), load(7, 10), swap(1, 9, 10, true), read(8, 6), store(7, 11)})
	expectEnded(t, f, got(6))
	// One value is as many as it can contain, so with two H is out of date.
	follow(t, pop.Start(c, 0), []exchange{load(1, 9), load(0, 22), load(1, 10), load(0, 22), load(5, 11)})
	// Channel 2 has the words from 16 on, with its slots at 21, 23, 25 and 27.
	f = follow(t, pop.Start(c, 2), []exchange{load(17, 9), load(16, 20), load(23, 10), swap(17, 9, 10, true), read(24, 6), store(23, 13)})
	expectEnded(t, f, got(6))
	f = follow(t, pop.Start(c, 2), []exchange{load(17, last-2), load(16, 0), load(23, last-1), swap(17, last-2, last-1, true), read(24, 6), store(23, 1)})
	expectEnded(t, f, got(6))
	follow(t, pop.Start(c, 2), []exchange{load(17, 9), load(16, 26), load(17, 10), load(16, 26), load(25, 11)})
}

// model is a machine at the access with the number at of P9.1, or behind its end with the outcome out.
type model struct {
	ring
	h, t, value uint64
	at          int
	out         api.Outcome
}

func (m model) next() api.Access {
	switch m.at {
	case 1, 3:
		return api.Access{Kind: api.Load, Address: m.head()}
	case 2:
		return api.Access{Kind: api.Load, Address: m.tail()}
	case 4:
		return api.Access{Kind: api.Load, Address: m.slotSeq(m.h)}
	case 5:
		return api.Access{Kind: api.Cas, Address: m.head(), Old: m.h, New: wrap(m.h + 1)}
	case 6:
		return api.Access{Kind: api.Read, Address: m.slotValue(m.h)}
	}
	return api.Access{Kind: api.Store, Address: m.slotSeq(m.h), New: wrap(m.h + m.size())}
}

func (m model) resume(a api.Answer) model {
	switch n := wrap(a.Value/2 - m.h); {
	case m.at == 3 && a.Value == m.h:
		m.at, m.out = 0, empty
		if m.t%2 == 1 {
			m.out = drained
		}
	case m.at == 1 || m.at == 3:
		m.at, m.h = 2, a.Value
	case m.at == 2:
		m.at, m.t = 4, a.Value
		if n == 0 {
			m.at = 3
		} else if n > uint64(m.capacity()) {
			m.at = 1
		}
	case m.at == 4 && a.Value != wrap(m.h+1), m.at == 5 && !a.Ok:
		m.at = 1
	case m.at == 7:
		m.at, m.out = 0, got(m.value)
	case m.at == 6:
		m.at, m.value = 7, a.Value
	default:
		m.at++
	}
	return m
}

// answers returns answers to the access that the model wants, with values at the edges of what it distinguishes.
func (m model) answers(random *rand.Rand) []api.Answer {
	k, near := uint64(m.capacity()), wrap(m.start()+uint64(random.Intn(40)))
	var values []uint64
	switch m.at {
	case 1, 3:
		values = []uint64{m.h, m.h, m.h ^ top, wrap(m.h + 1), near, near, near | top, last, 0, math.MaxUint64}
	case 2:
		for _, n := range []uint64{0, 1, k - 1, k, k + 1, m.size(), 1 << 62, last, uint64(random.Intn(20))} {
			values = append(values, (m.h+n)*2, (m.h+n)*2+1)
		}
	case 4:
		values = []uint64{wrap(m.h + 1), wrap(m.h + 1), wrap(m.h + 1), m.h, wrap(m.h + 2), wrap(m.h + m.size()), wrap(m.h + 1 + m.size()), wrap(m.h+1) | top, m.t}
	default:
		values = []uint64{m.h, m.t, random.Uint64(), 0, math.MaxUint64}
	}
	var list []api.Answer
	for _, value := range values {
		list = append(list, api.Answer{Value: value, Ok: true}, api.Answer{Value: value, Late: true, List: []int{3}})
	}
	return list
}

// expectSame expects that a machine is where its model is.
func (m model) expectSame(t *testing.T, f api.Frame) {
	t.Helper()
	if m.at == 0 {
		expectEnded(t, f, m.out)
		return
	}
	expectWants(t, f, m.next())
}

func TestP9_1AnyAnswers(t *testing.T) {
	random := rand.New(rand.NewSource(9))
	ends := map[int]int{}
	for _, r := range rings() {
		for range 60 {
			m, f := model{ring: r, at: 1}, pop.Start(r.config, r.channel)
			m.expectSame(t, f)
			for n := 0; n < 200 && m.at != 0; n++ {
				list := m.answers(random)
				for _, a := range list {
					m.resume(a).expectSame(t, pop.Resume(f, a))
				}
				a := list[random.Intn(len(list))]
				m, f = m.resume(a), pop.Resume(f, a)
			}
			ends[m.out.Kind]++
		}
	}
	for _, kind := range []int{api.OutGot, api.OutEmpty, api.OutDrained} {
		if ends[kind] < 50 {
			t.Errorf("%d machines ended with the outcome %d", ends[kind], kind)
		}
	}
}

// worker is a machine of a thread. Pushes and pops are those of their packages, and a closer closes the ring as chapter 10 says.
type worker interface {
	next() api.Access // the zero Access behind the end
	resume(api.Answer) worker
}

// pusher adds a value.
type pusher struct{ frame api.Frame }

func (p pusher) next() api.Access { return push.Next(p.frame) }

func (p pusher) resume(a api.Answer) worker {
	p.frame = push.Resume(p.frame, a)
	return p
}

// popper takes a value. It remembers how the ring was at its last Load of Tail, and the number of pops that had taken effect before its own did.
type popper struct {
	frame         api.Frame
	empty, closed bool
	swapped       bool
	before        int
}

func (p popper) next() api.Access { return pop.Next(p.frame) }

func (p popper) resume(a api.Answer) worker {
	p.frame = pop.Resume(p.frame, a)
	return p
}

// closer closes the ring: at 1 it loads Tail, at 2 it tries a Cas.
type closer struct {
	ring
	t  uint64
	at int
}

func (c closer) next() api.Access {
	switch c.at {
	case 1:
		return api.Access{Kind: api.Load, Address: c.tail()}
	case 2:
		return api.Access{Kind: api.Cas, Address: c.tail(), Old: c.t, New: c.t + 1}
	}
	return api.Access{}
}

func (c closer) resume(a api.Answer) worker {
	switch {
	case c.at == 1 && a.Value%2 == 0:
		c.at, c.t = 2, a.Value
	case c.at == 2 && !a.Ok:
		c.at = 1
	default:
		c.at = 0
	}
	return c
}

// state is a moment of some workers, with the values whose push has taken effect, in the order of these moments, and the number of pops that have taken effect.
type state struct {
	ring
	memory  api.Memory
	workers []worker
	pushed  []uint64
	popped  int
}

// inside returns the number of values whose push has taken effect and whose pop has not.
func (s state) inside() int { return len(s.pushed) - s.popped }

func (s state) isClosed() bool { return s.memory.Words[s.tail()]%2 == 1 }

// after returns the state behind a step of a worker.
func (s state) after(t *testing.T, number int) state {
	t.Helper()
	before := s
	access := s.workers[number].next()
	m, answer, ok := memory.Apply(s.memory, access)
	if !ok {
		t.Fatalf("%+v is not granted", access)
	}
	s.memory = m
	s.workers = slices.Clone(s.workers)
	s.workers[number] = s.workers[number].resume(answer)
	switch w := s.workers[number].(type) {
	case pusher:
		if access.Kind == api.Cas && answer.Ok {
			s.pushed = append(slices.Clone(s.pushed), uint64(number))
		}
	case popper:
		s.watch(t, before, number, w, access, answer)
	}
	return s
}

// watch notes and checks what a step of a popper did.
func (s *state) watch(t *testing.T, before state, number int, w popper, access api.Access, answer api.Answer) {
	t.Helper()
	switch {
	case access.Address == s.tail():
		w.empty, w.closed = before.inside() == 0, before.isClosed()
	case access.Kind == api.Cas && answer.Ok:
		if w.swapped || before.inside() == 0 {
			t.Fatalf("a pop takes effect at %+v", before)
		}
		w.swapped, w.before = true, before.popped
		s.popped++
	}
	s.workers[number] = w
	outcome, ended := pop.End(w.frame)
	right := map[int]bool{
		0:              !ended,
		api.OutGot:     w.swapped && outcome.Value == s.pushed[w.before],
		api.OutEmpty:   !w.swapped && w.empty && !w.closed,
		api.OutDrained: !w.swapped && w.empty && w.closed,
	}
	if !right[outcome.Kind] {
		t.Fatalf("a pop has the outcome %+v behind %+v", outcome, before)
	}
}

// check expects that the ring contains what was pushed and not popped, and that no two plain accesses race.
func (s state) check(t *testing.T) {
	t.Helper()
	tail, head := s.memory.Words[s.tail()]/2, s.memory.Words[s.head()]
	if s.inside() > s.capacity() || tail != wrap(s.start()+uint64(len(s.pushed))) || head != wrap(s.start()+uint64(s.popped)) {
		t.Fatalf("%d values are in the ring: %+v", s.inside(), s)
	}
	plain := map[int]int{}
	for _, w := range s.workers {
		switch a := w.next(); a.Kind {
		case api.Write, api.Read:
			plain[a.Address]++
		}
	}
	for address, n := range plain {
		// A value is written by one push, and read by one pop.
		if n > 1 {
			t.Fatalf("%d plain accesses to the word %d at one time: %+v", n, address, s)
		}
	}
}

// explore goes through all interleavings of some workers, and returns the number of states and, for each outcome, the number of moments in which a pop ends with it.
func explore(t *testing.T, begin state) (states int, outcomes map[int]int) {
	t.Helper()
	seen := map[string]bool{}
	outcomes = map[int]int{}
	todo := []state{begin}
	for len(todo) > 0 {
		s := todo[len(todo)-1]
		todo = todo[:len(todo)-1]
		key := fmt.Sprint(s.memory, s.workers, s.pushed, s.popped)
		if seen[key] {
			continue
		}
		seen[key] = true
		s.check(t)
		for number, w := range s.workers {
			if w.next() == (api.Access{}) {
				continue
			}
			after := s.after(t, number)
			if p, ok := after.workers[number].(popper); ok {
				outcome, _ := pop.End(p.frame)
				outcomes[outcome.Kind]++
			}
			todo = append(todo, after)
		}
	}
	return len(seen), outcomes
}

// crew returns the moment in which pushers, poppers and closers begin, behind pushes that fill a part of the ring. Each pusher adds its own number.
func crew(t *testing.T, r ring, filled, pushers, poppers, closers int) state {
	t.Helper()
	s := state{ring: r, memory: fill(t, first(t, r.config), r, filled)}
	for n := range filled {
		s.pushed = append(s.pushed, uint64(100+n))
	}
	for n := range pushers {
		s.workers = append(s.workers, pusher{push.Start(r.config, r.channel, uint64(n))})
	}
	for range poppers {
		s.workers = append(s.workers, popper{frame: pop.Start(r.config, r.channel)})
	}
	for range closers {
		s.workers = append(s.workers, closer{ring: r, at: 1})
	}
	return s
}

// fill pushes the values 100, 101 and so on.
func fill(t *testing.T, m api.Memory, r ring, values int) api.Memory {
	t.Helper()
	for n := range values {
		m = add(t, m, r, uint64(100+n))
	}
	return m
}

// add pushes a value, which takes six accesses.
func add(t *testing.T, m api.Memory, r ring, value uint64) api.Memory {
	t.Helper()
	f := push.Start(r.config, r.channel, value)
	for range 6 {
		after, answer, ok := memory.Apply(m, push.Next(f))
		if !ok {
			t.Fatalf("%+v is not granted", push.Next(f))
		}
		m, f = after, push.Resume(f, answer)
	}
	if outcome, _ := push.End(f); outcome.Kind != api.OutOk {
		t.Fatalf("a push ends with %+v", outcome)
	}
	return m
}

// step makes the access that a machine wants.
func step(t *testing.T, m api.Memory, f api.Frame) (api.Memory, api.Frame) {
	t.Helper()
	after, answer, ok := memory.Apply(m, pop.Next(f))
	if !ok {
		t.Fatalf("%+v is not granted", pop.Next(f))
	}
	return after, pop.Resume(f, answer)
}

// run makes as many accesses of a machine.
func run(t *testing.T, m api.Memory, f api.Frame, accesses int) (api.Memory, api.Frame) {
	t.Helper()
	for range accesses {
		m, f = step(t, m, f)
	}
	return m, f
}

func TestP9_2AllInterleavings(t *testing.T) {
	for _, c := range []struct {
		capacity                          int
		start                             uint64
		filled, pushers, poppers, closers int
		got, empty, drained               bool
	}{
		{1, 0, 0, 0, 1, 0, false, true, false},
		{1, 0, 1, 0, 1, 0, true, false, false},
		{2, last, 2, 0, 2, 0, true, false, false},
		{3, last - 1, 3, 0, 3, 0, true, false, false},
		{1, last, 1, 0, 3, 0, true, true, false},
		{1, 0, 0, 1, 1, 0, true, true, false},
		{1, last, 0, 1, 2, 0, true, true, false},
		{2, last - 1, 1, 1, 2, 0, true, true, false},
		{1, last - 1, 1, 1, 2, 0, true, true, false},
		{1, last, 0, 2, 2, 0, true, true, false},
		{2, last, 2, 2, 1, 0, true, false, false},
		{2, last, 1, 1, 2, 1, true, true, true},
		{1, 5, 0, 0, 2, 1, false, true, true},
		{1, last, 1, 0, 2, 1, true, true, true},
		{1, last - 1, 0, 1, 2, 1, true, true, true},
		{3, last - 2, 3, 1, 2, 0, true, false, false},
	} {
		begin := crew(t, ring{starting(c.start, c.capacity, 0), 0}, c.filled, c.pushers, c.poppers, c.closers)
		states, outcomes := explore(t, begin)
		if (outcomes[api.OutGot] > 0) != c.got || (outcomes[api.OutEmpty] > 0) != c.empty || (outcomes[api.OutDrained] > 0) != c.drained {
			t.Errorf("%+v has the outcomes %v in %d states", c, outcomes, states)
		}
	}
}

func TestP9_2ValuesComeInTheOrderOfTheirPushes(t *testing.T) {
	for _, r := range rings() {
		m := first(t, r.config)
		next := uint64(0)
		for round := range 5 {
			filled := uint64(max(1, r.capacity()-round))
			for n := range filled {
				m = add(t, m, r, next+n)
			}
			for range filled {
				want := slices.Clone(m.Words)
				var f api.Frame
				m, f = run(t, m, pop.Start(r.config, r.channel), 6)
				expectEnded(t, f, got(next))
				seq := wrap(r.start() + next)
				want[r.head()], want[r.slotSeq(seq)] = wrap(seq+1), wrap(seq+r.size())
				if !slices.Equal(m.Words, want) {
					t.Fatalf("behind the pop of %d from %+v the words are %v, expected %v", next, r, m.Words, want)
				}
				next++
			}
			after, f := run(t, m, pop.Start(r.config, r.channel), 3)
			expectEnded(t, f, empty)
			if !slices.Equal(after.Words, m.Words) {
				t.Fatalf("a pop from an empty ring made the words %v from %v", after.Words, m.Words)
			}
		}
	}
}

func TestP9_2AClosedRingIsTakenUntilItIsDrained(t *testing.T) {
	for _, r := range rings() {
		m := fill(t, first(t, r.config), r, r.capacity())
		m.Words[r.tail()]++
		for n := range r.capacity() {
			var f api.Frame
			m, f = run(t, m, pop.Start(r.config, r.channel), 6)
			expectEnded(t, f, got(uint64(100+n)))
		}
		_, f := run(t, m, pop.Start(r.config, r.channel), 3)
		expectEnded(t, f, drained)
	}
}

// A pop that stands still at any place does not make another one wait: that one takes the same value or the next one.
func TestAPopThatStandsStillDoesNotStopAnother(t *testing.T) {
	for accesses := range 6 {
		r := ring{starting(last, 2), 0}
		m, one := run(t, fill(t, first(t, r.config), r, 2), pop.Start(r.config, 0), accesses)
		m, two := run(t, m, pop.Start(r.config, 0), 6)
		for n := 0; n < 20; n++ {
			if _, ok := pop.End(one); ok {
				break
			}
			m, one = step(t, m, one)
		}
		want := []uint64{101, 100}
		if accesses >= 4 {
			want = []uint64{100, 101}
		}
		expectEnded(t, one, got(want[0]))
		expectEnded(t, two, got(want[1]))
	}
}

func TestMachinesDependOnTheirFramesOnly(t *testing.T) {
	r := ring{starting(0, 2, 0, 1), 0}
	f := pop.Start(r.config, 0)
	// One frame goes on in several ways, in any order.
	a, b := pop.Resume(f, api.Answer{Value: 2}), pop.Resume(f, api.Answer{Value: 1})
	other := pop.Start(r.config, 2)
	a2, b2 := pop.Resume(a, api.Answer{Value: 6}), pop.Resume(b, api.Answer{Value: 6})
	a3, a4 := pop.Resume(a, api.Answer{Value: 5}), pop.Resume(a, api.Answer{Value: 4})
	expectWants(t, pop.Resume(other, api.Answer{}), api.Access{Kind: api.Load, Address: layout.Tail(r.config, 2)})
	expectWants(t, f, api.Access{Kind: api.Load, Address: r.head()})
	expectWants(t, a, api.Access{Kind: api.Load, Address: r.tail()})
	expectWants(t, a2, api.Access{Kind: api.Load, Address: r.slotSeq(2)})
	expectWants(t, b2, api.Access{Kind: api.Load, Address: r.slotSeq(1)})
	expectEnded(t, pop.Resume(a3, api.Answer{Value: 2}), drained)
	expectEnded(t, pop.Resume(a4, api.Answer{Value: 2}), empty)
	c := pop.Resume(pop.Resume(a2, api.Answer{Value: 3}), api.Answer{Ok: true})
	d, e := pop.Resume(c, api.Answer{Value: 50}), pop.Resume(c, api.Answer{Value: 60})
	expectEnded(t, pop.Resume(d, api.Answer{Value: 70}), got(50))
	expectEnded(t, pop.Resume(e, api.Answer{Value: 70}), got(60))
	if !reflect.DeepEqual(r.config, starting(0, 2, 0, 1)) || !reflect.DeepEqual(f, pop.Start(r.config, 0)) {
		t.Errorf("the configuration is now %+v, the frame %+v", r.config, f)
	}
}

func TestAConfigurationMayChangeBehindStart(t *testing.T) {
	c := starting(0, 2, 1)
	f := pop.Start(c, 1)
	c.Capacities[0], c.Capacities[1], c.Starts[1] = 16, 16, 99
	f = follow(t, f, []exchange{load(10, 1), load(9, 4), load(16, 2), swap(10, 1, 2, true), read(17, 6), store(16, 3)})
	expectEnded(t, f, got(6))
}

func TestArgumentsAreNotModified(t *testing.T) {
	capacities, starts := []int{3, 0, 91, 92}, []uint64{last, 4, 93, 94}
	c := api.Config{Capacities: capacities[:2], Starts: starts[:2], Threads: 2}
	f := pop.Start(c, 0)
	for _, a := range []api.Answer{{Value: 5}, {Value: 10}, {Value: 6}, {Value: 20}, {Value: 7}, {Value: 16}, {Value: 8}, {Ok: true}, {Value: 3}, {}, {}} {
		f.Words = append(slices.Clone(f.Words), 95, 96)[:len(f.Words)]
		f.List = append(slices.Clone(f.List), 97, 98)[:len(f.List)]
		words, list := slices.Clone(f.Words[:cap(f.Words)]), slices.Clone(f.List[:cap(f.List)])
		pop.Next(f)
		pop.End(f)
		after := pop.Resume(f, a)
		if !slices.Equal(f.Words[:cap(f.Words)], words) || !slices.Equal(f.List[:cap(f.List)], list) {
			t.Fatalf("the frame is now %+v", f)
		}
		f = after
	}
	expectEnded(t, f, got(3))
	if !slices.Equal(capacities, []int{3, 0, 91, 92}) || !slices.Equal(starts, []uint64{last, 4, 93, 94}) {
		t.Errorf("the configuration is now %v and %v", capacities, starts)
	}
}

// strange returns frames that no function of the package returned.
func strange() []api.Frame {
	list := []api.Frame{{}}
	for _, pc := range []int{math.MinInt, -1, 0, 1, 2, 3, 4, 5, 6, 7, 8, 9, 1 << 32, math.MaxInt} {
		for _, numbers := range [][]int{nil, {math.MinInt}, {1, 2, 3}, {1, 2, 3, 4}, {1, 2, -3, 4, 5}, {1, 2, math.MaxInt, 4, 5, 6}, make([]int, 9)} {
			for words := range 5 {
				f := api.Frame{Code: pc, Pc: pc, List: numbers, Words: slices.Repeat([]uint64{math.MaxUint64}, words)}
				list = append(list, f, api.Frame{Pc: f.Pc, List: f.List, Words: make([]uint64, words), Up: []api.Frame{f}})
			}
		}
	}
	return list
}

func TestTotality(t *testing.T) {
	frames := strange()
	configs := append(samples(), api.Config{}, api.Config{Capacities: []int{3}}, api.Config{Starts: []uint64{3}, Threads: math.MinInt},
		api.Config{Capacities: []int{1 << 30}, Starts: []uint64{0}, Threads: 1},
		api.Config{Capacities: []int{math.MinInt, -1, 17, 1 << 30, math.MaxInt}, Starts: []uint64{1 << 63}, Threads: math.MaxInt})
	for _, c := range configs {
		for _, channel := range []int{math.MinInt, -1, 0, 1, 2, 3, 8, 1 << 32, math.MaxInt} {
			frames = append(frames, pop.Start(c, channel))
		}
	}
	for _, f := range frames {
		for _, a := range []api.Answer{{}, {Ok: true}, {Value: 2}, {Value: math.MaxUint64, Late: true, List: []int{-1}}} {
			g := f
			for range 9 {
				pop.Next(g)
				pop.End(g)
				g = pop.Resume(g, a)
			}
		}
	}
}

func Example() {
	c := api.Config{Capacities: []int{1, 0}, Starts: []uint64{0, 0}, Threads: 2}
	m, _ := layout.New(c)
	adding := push.Start(c, 0, 40)
	for push.Next(adding) != (api.Access{}) {
		after, answer, _ := memory.Apply(m, push.Next(adding))
		m, adding = after, push.Resume(adding, answer)
	}
	for range 2 {
		f := pop.Start(c, 0)
		for pop.Next(f) != (api.Access{}) {
			after, answer, _ := memory.Apply(m, pop.Next(f))
			m, f = after, pop.Resume(f, answer)
		}
		outcome, _ := pop.End(f)
		fmt.Println(outcome.Kind == api.OutGot, outcome.Kind == api.OutEmpty, outcome.Value)
	}
	// Output:
	// true false 40
	// false true 0
}
