package push_test

import (
	"fmt"
	"math"
	"math/rand"
	"reflect"
	"slices"
	"testing"

	"chanfabric/api"
	"chanfabric/layout"
	"chanfabric/memory"
	"chanfabric/push"
)

const (
	last = 1<<63 - 1 // the greatest sequence number
	top  = 1 << 63   // the bit that a sequence number does not have
)

// starting returns a configuration of three threads whose rings all start at the same number.
func starting(start uint64, capacities ...int) api.Config {
	return api.Config{Capacities: capacities, Starts: slices.Repeat([]uint64{start}, len(capacities)), Threads: 3}
}

// samples returns valid configurations.
func samples() []api.Config {
	list := []api.Config{
		starting(0, 2, 0),
		starting(last, 1, 1, 0, 0, 3),
		starting(7, 16, 16, 16, 16, 16, 16, 16, 16),
		{Capacities: []int{5, 0, 16, 1, 9, 2, 4, 8}, Starts: []uint64{0, 1, last, 1 << 62, 7, last - 3, 1<<62 - 1, 12345678901}, Threads: 8},
	}
	for capacity := 1; capacity <= api.MaxCapacity; capacity++ {
		list = append(list, starting(last-uint64(capacity/2), 0, capacity))
	}
	return list
}

// ring is a channel with a capacity greater than 0.
type ring struct {
	config  api.Config
	channel int
}

// rings returns all rings of the samples.
func rings() []ring {
	var list []ring
	for _, c := range samples() {
		for channel, capacity := range c.Capacities {
			if capacity > 0 {
				list = append(list, ring{c, channel})
			}
		}
	}
	return list
}

func (r ring) capacity() int { return r.config.Capacities[r.channel] }

func (r ring) start() uint64 { return r.config.Starts[r.channel] }

// size returns the number of slots, as chapter 1 gives it.
func (r ring) size() uint64 {
	return []uint64{1, 2, 2, 4, 4, 8, 8, 8, 8, 16, 16, 16, 16, 16, 16, 16, 16}[r.capacity()]
}

func (r ring) tail() int { return layout.Tail(r.config, r.channel) }

func (r ring) head() int { return layout.Head(r.config, r.channel) }

func (r ring) slotSeq(seq uint64) int { return layout.SlotSeq(r.config, r.channel, seq) }

func (r ring) slotValue(seq uint64) int { return layout.SlotValue(r.config, r.channel, seq) }

// first returns the memory with which a configuration begins.
func first(t *testing.T, c api.Config) api.Memory {
	t.Helper()
	m, errno := layout.New(c)
	if errno != api.OK {
		t.Fatalf("New(%+v) = %d", c, errno)
	}
	return m
}

// wrap returns a number modulo 2^63.
func wrap(n uint64) uint64 { return n &^ top }

// expectWants expects that a machine wants an access, and has not ended.
func expectWants(t *testing.T, f api.Frame, want api.Access) {
	t.Helper()
	if got := push.Next(f); got != want {
		t.Fatalf("Next = %+v, expected %+v", got, want)
	}
	if got, ok := push.End(f); ok || got != (api.Outcome{}) {
		t.Fatalf("End of a machine that wants %+v = %+v, %v", want, got, ok)
	}
}

// expectEnded expects that a machine has ended with an outcome of a kind, and stays as it is whatever it is answered.
func expectEnded(t *testing.T, f api.Frame, kind int) {
	t.Helper()
	if got, ok := push.End(f); !ok || got != (api.Outcome{Kind: kind}) {
		t.Fatalf("End = %+v, %v, expected the kind %d", got, ok, kind)
	}
	if got := push.Next(f); got != (api.Access{}) {
		t.Fatalf("Next of a machine that has ended = %+v", got)
	}
	for _, a := range []api.Answer{{}, {Ok: true}, {Value: 1}, {Value: math.MaxUint64, Ok: true, Late: true, List: []int{1}}} {
		if got := push.Resume(f, a); !reflect.DeepEqual(got, f) {
			t.Fatalf("Resume(%+v, %+v) = %+v, and it has ended", f, a, got)
		}
	}
}

// exchange is an access that a machine shall want, and the answer to it.
type exchange struct {
	access api.Access
	answer api.Answer
}

func load(address int, value uint64) exchange {
	return exchange{api.Access{Kind: 1, Address: address}, api.Answer{Value: value}}
}

func swap(address int, from, to uint64, ok bool) exchange {
	return exchange{api.Access{Kind: 3, Address: address, Old: from, New: to}, api.Answer{Value: from, Ok: ok}}
}

func write(address int, value uint64) exchange {
	return exchange{api.Access{Kind: 6, Address: address, New: value}, api.Answer{}}
}

func store(address int, value uint64) exchange {
	return exchange{api.Access{Kind: 2, Address: address, New: value}, api.Answer{}}
}

// TestP8_1Accesses is about channel 0 with the capacity 2: Tail is word 0, Head word 1, and the slots have the words 5, 6 and 7, 8. A tail word is twice its sequence number, and one more if it is closed.
func TestP8_1Accesses(t *testing.T) {
	for _, c := range []struct {
		name  string
		kind  int
		steps []exchange
	}{
		{"an empty ring", api.OutOk, []exchange{
			load(0, 0), load(1, 0), load(5, 0), swap(0, 0, 2, true), write(6, 77), store(5, 1)}},
		{"a ring with one value", api.OutOk, []exchange{
			load(0, 2), load(1, 0), load(7, 1), swap(0, 2, 4, true), write(8, 77), store(7, 2)}},
		{"a later round", api.OutOk, []exchange{
			load(0, 26), load(1, 12), load(7, 13), swap(0, 26, 28, true), write(8, 77), store(7, 14)}},
		{"the numbers wrap around", api.OutOk, []exchange{
			load(0, last*2), load(1, last-1), load(7, last), swap(0, last*2, 0, true), write(8, 77), store(7, 0)}},
		{"the numbers have wrapped around", api.OutOk, []exchange{
			load(0, 0), load(1, last), load(5, 0), swap(0, 0, 2, true), write(6, 77), store(5, 1)}},
		{"a full ring", api.OutFull, []exchange{
			load(0, 4), load(1, 0), load(0, 4)}},
		{"a full ring whose numbers have wrapped around", api.OutFull, []exchange{
			load(0, 2), load(1, last), load(0, 2)}},
		{"a closed ring", api.OutClosed, []exchange{
			load(0, 1)}},
		{"a closed ring with all numbers", api.OutClosed, []exchange{
			load(0, math.MaxUint64)}},
		{"T is out of date by one", api.OutFull, []exchange{
			load(0, 4), load(1, 3), load(0, 10), load(1, 3), load(0, 10)}},
		{"T is out of date by more than the capacity", api.OutOk, []exchange{
			load(0, 4), load(1, 30), load(0, 60), load(1, 30), load(5, 30), swap(0, 60, 62, true), write(6, 77), store(5, 31)}},
		{"T is out of date, and then the ring is closed", api.OutClosed, []exchange{
			load(0, 4), load(1, 3), load(0, 11)}},
		{"more values than the capacity", api.OutClosed, []exchange{
			load(0, 6), load(1, 0), load(0, 6), load(1, 0), load(0, 7)}},
		{"Tail moves on while the ring is full", api.OutOk, []exchange{
			load(0, 4), load(1, 0), load(0, 6), load(1, 2), load(7, 3), swap(0, 6, 8, true), write(8, 77), store(7, 4)}},
		{"Tail moves on twice while the ring is full", api.OutFull, []exchange{
			load(0, 4), load(1, 0), load(0, 6), load(1, 1), load(0, 8), load(1, 2), load(0, 8)}},
		{"the ring is closed while it is full", api.OutClosed, []exchange{
			load(0, 4), load(1, 0), load(0, 5)}},
		{"the ring is closed while it is full, with another number", api.OutClosed, []exchange{
			load(0, 4), load(1, 0), load(0, 9)}},
		{"the slot is not yet free", api.OutOk, []exchange{
			load(0, 4), load(1, 1), load(5, 1), load(0, 4), load(1, 1), load(5, 2), swap(0, 4, 6, true), write(6, 77), store(5, 3)}},
		{"the slot was used by another push", api.OutFull, []exchange{
			load(0, 2), load(1, 0), load(7, 2), load(0, 4), load(1, 0), load(0, 4)}},
		{"the slot is free for a later value", api.OutClosed, []exchange{
			load(0, 4), load(1, 1), load(5, 4), load(0, 11)}},
		{"the Cas is not Ok", api.OutOk, []exchange{
			load(0, 0), load(1, 0), load(5, 0), swap(0, 0, 2, false), load(0, 2), load(1, 0), load(7, 1), swap(0, 2, 4, true), write(8, 77), store(7, 2)}},
		{"the Cas is not Ok, and then the ring is full", api.OutFull, []exchange{
			load(0, 2), load(1, 0), load(7, 1), swap(0, 2, 4, false), load(0, 4), load(1, 0), load(0, 4)}},
		{"the Cas is not Ok, and then the ring is closed", api.OutClosed, []exchange{
			load(0, 0), load(1, 0), load(5, 0), swap(0, 0, 2, false), load(0, 1)}},
	} {
		t.Run(c.name, func(t *testing.T) {
			f := push.Start(starting(0, 2, 0), 0, 77)
			for _, s := range c.steps {
				expectWants(t, f, s.access)
				f = push.Resume(f, s.answer)
			}
			expectEnded(t, f, c.kind)
		})
	}
}

func TestNumbersOfAnotherChannel(t *testing.T) {
	// Channel 2 has the words from 16 on: Tail, Head, three others, and its four slots from 21 on.
	f := push.Start(starting(9, 2, 0, 3), 2, 5)
	for _, s := range []exchange{load(16, 22), load(17, 9), load(27, 11), swap(16, 22, 24, true), write(28, 5), store(27, 12)} {
		expectWants(t, f, s.access)
		f = push.Resume(f, s.answer)
	}
	expectEnded(t, f, api.OutOk)
}

// model is a machine at the access with the number at of P8.1, or behind its end with the outcome out.
type model struct {
	ring
	value, t uint64
	at, out  int
}

func (m model) seq() uint64 { return m.t / 2 }

func (m model) next() api.Access {
	switch m.at {
	case 1, 3:
		return api.Access{Kind: api.Load, Address: m.tail()}
	case 2:
		return api.Access{Kind: api.Load, Address: m.head()}
	case 4:
		return api.Access{Kind: api.Load, Address: m.slotSeq(m.seq())}
	case 5:
		return api.Access{Kind: api.Cas, Address: m.tail(), Old: m.t, New: wrap(m.seq()+1) * 2}
	case 6:
		return api.Access{Kind: api.Write, Address: m.slotValue(m.seq()), New: m.value}
	}
	return api.Access{Kind: api.Store, Address: m.slotSeq(m.seq()), New: wrap(m.seq() + 1)}
}

func (m model) resume(a api.Answer) model {
	switch n := wrap(m.seq() - a.Value); {
	case (m.at == 1 || m.at == 3) && a.Value%2 == 1:
		m.at, m.out = 0, api.OutClosed
	case m.at == 3 && a.Value == m.t:
		m.at, m.out = 0, api.OutFull
	case m.at == 1 || m.at == 3:
		m.at, m.t = 2, a.Value
	case m.at == 2 && n == uint64(m.capacity()):
		m.at = 3
	case m.at == 2 && n > uint64(m.capacity()), m.at == 4 && a.Value != m.seq(), m.at == 5 && !a.Ok:
		m.at = 1
	case m.at == 2:
		m.at = 4
	case m.at == 7:
		m.at, m.out = 0, api.OutOk
	default:
		m.at++
	}
	return m
}

// answers returns answers to the access that the model wants, with values at the edges of what it distinguishes.
func (m model) answers(random *rand.Rand) []api.Answer {
	k, near := uint64(m.capacity()), wrap(m.start()+uint64(random.Intn(40)))
	var values []uint64
	switch m.at {
	case 1, 3:
		values = []uint64{m.t, m.t, m.t ^ 1, m.t + 2, near * 2, near * 2, near*2 + 1, last * 2, 0, 1, math.MaxUint64}
	case 2:
		for _, n := range []uint64{0, 1, k - 1, k, k + 1, m.size(), 1 << 62, last, uint64(random.Intn(20))} {
			values = append(values, wrap(m.seq()-n), wrap(m.seq()-n)|top)
		}
	case 4:
		values = []uint64{m.seq(), m.seq(), m.seq(), wrap(m.seq() + 1), wrap(m.seq() - 1), wrap(m.seq() - m.size()), wrap(m.seq() + 1 - m.size()), m.seq() ^ top, m.t}
	default:
		values = []uint64{m.t, m.t + 2, 0, math.MaxUint64}
	}
	var list []api.Answer
	for _, value := range values {
		list = append(list, api.Answer{Value: value, Ok: true}, api.Answer{Value: value, Late: true, List: []int{3}})
	}
	return list
}

// expectSame expects that a machine is where its model is.
func (m model) expectSame(t *testing.T, f api.Frame) {
	t.Helper()
	if m.at == 0 {
		expectEnded(t, f, m.out)
		return
	}
	expectWants(t, f, m.next())
}

func TestP8_1AnyAnswers(t *testing.T) {
	random := rand.New(rand.NewSource(8))
	ends := map[int]int{}
	for _, r := range rings() {
		for range 40 {
			value := random.Uint64()
			m, f := model{ring: r, value: value, at: 1}, push.Start(r.config, r.channel, value)
			m.expectSame(t, f)
			for n := 0; n < 200 && m.at != 0; n++ {
				list := m.answers(random)
				for _, a := range list {
					m.resume(a).expectSame(t, push.Resume(f, a))
				}
				a := list[random.Intn(len(list))]
				m, f = m.resume(a), push.Resume(f, a)
			}
			ends[m.out]++
		}
	}
	for _, kind := range []int{api.OutOk, api.OutFull, api.OutClosed} {
		if ends[kind] < 50 {
			t.Errorf("%d machines ended with the outcome %d", ends[kind], kind)
		}
	}
}

// step makes the access that a machine wants.
func step(t *testing.T, m api.Memory, f api.Frame) (api.Memory, api.Frame) {
	t.Helper()
	after, answer, ok := memory.Apply(m, push.Next(f))
	if !ok {
		t.Fatalf("%+v is not granted", push.Next(f))
	}
	return after, push.Resume(f, answer)
}

// run makes as many accesses of a machine, and no more than it wants.
func run(t *testing.T, m api.Memory, f api.Frame, accesses int) (api.Memory, api.Frame) {
	t.Helper()
	for range accesses {
		m, f = step(t, m, f)
	}
	return m, f
}

func TestPushesUntilTheRingIsFull(t *testing.T) {
	for _, r := range rings() {
		m := first(t, r.config)
		want := slices.Clone(m.Words)
		for n := range uint64(r.capacity()) {
			var f api.Frame
			m, f = run(t, m, push.Start(r.config, r.channel, n*n+5), 6)
			expectEnded(t, f, api.OutOk)
			seq := wrap(r.start() + n)
			want[r.tail()], want[r.slotSeq(seq)], want[r.slotValue(seq)] = wrap(seq+1)*2, wrap(seq+1), n*n+5
			if !slices.Equal(m.Words, want) {
				t.Fatalf("behind push %d of %+v the words are %v, expected %v", n, r, m.Words, want)
			}
		}
		m, f := run(t, m, push.Start(r.config, r.channel, 1), 3)
		expectEnded(t, f, api.OutFull)
		m.Words[r.tail()]++
		m, f = run(t, m, push.Start(r.config, r.channel, 1), 1)
		expectEnded(t, f, api.OutClosed)
		want[r.tail()]++
		if !slices.Equal(m.Words, want) {
			t.Fatalf("the words of a full ring are %v, expected %v", m.Words, want)
		}
	}
}

// worker is a machine of a thread. A kind of them is the machine of this package, the others take values and close as the chapters 9 and 10 say.
type worker interface {
	next() api.Access // the zero Access behind the end
	resume(api.Answer) worker
}

// pusher adds a value with the machine of this package. It remembers whether the ring was full at its last Load of Head, and whether its Cas was Ok.
type pusher struct {
	frame         api.Frame
	full, swapped bool
}

func (p pusher) next() api.Access { return push.Next(p.frame) }

func (p pusher) resume(a api.Answer) worker {
	p.frame = push.Resume(p.frame, a)
	return p
}

// popper takes a value. It is at the access with the number at of P9.1.
type popper struct {
	ring
	h, t  uint64
	at    int
	taken uint64
}

func (p popper) next() api.Access {
	switch p.at {
	case 1, 3:
		return api.Access{Kind: api.Load, Address: p.head()}
	case 2:
		return api.Access{Kind: api.Load, Address: p.tail()}
	case 4:
		return api.Access{Kind: api.Load, Address: p.slotSeq(p.h)}
	case 5:
		return api.Access{Kind: api.Cas, Address: p.head(), Old: p.h, New: wrap(p.h + 1)}
	case 6:
		return api.Access{Kind: api.Read, Address: p.slotValue(p.h)}
	case 7:
		return api.Access{Kind: api.Store, Address: p.slotSeq(p.h), New: wrap(p.h + p.size())}
	}
	return api.Access{}
}

func (p popper) resume(a api.Answer) worker {
	switch p.at {
	case 1, 3:
		if p.at == 3 && a.Value == p.h {
			p.at = 0 // the ring was empty
			return p
		}
		p.at, p.h = 2, a.Value
	case 2:
		p.t = a.Value
		n := wrap(p.t/2 - p.h)
		p.at = 4
		if n == 0 {
			p.at = 3
		} else if n > uint64(p.capacity()) {
			p.at = 1
		}
	case 4:
		p.at = 1
		if a.Value == wrap(p.h+1) {
			p.at = 5
		}
	case 5:
		p.at = 1
		if a.Ok {
			p.at = 6
		}
	case 6:
		p.at, p.taken = 7, a.Value
	case 7:
		p.at = 0
	}
	return p
}

// closer closes the ring: at 1 it loads Tail, at 2 it tries a Cas.
type closer struct {
	ring
	t  uint64
	at int
}

func (c closer) next() api.Access {
	switch c.at {
	case 1:
		return api.Access{Kind: api.Load, Address: c.tail()}
	case 2:
		return api.Access{Kind: api.Cas, Address: c.tail(), Old: c.t, New: c.t + 1}
	}
	return api.Access{}
}

func (c closer) resume(a api.Answer) worker {
	switch {
	case c.at == 1 && a.Value%2 == 0:
		c.at, c.t = 2, a.Value
	case c.at == 2 && !a.Ok:
		c.at = 1
	default:
		c.at = 0
	}
	return c
}

// state is a moment of some workers, with the values whose push has taken effect, in the order of these moments.
type state struct {
	ring
	memory  api.Memory
	workers []worker
	pushed  []uint64
}

// inside returns the number of values whose push has taken effect and whose pop has not.
func (s state) inside() uint64 {
	return wrap(s.memory.Words[s.tail()]/2 - s.memory.Words[s.head()])
}

func (s state) isFull() bool { return s.inside() == uint64(s.capacity()) }

func (s state) isClosed() bool { return s.memory.Words[s.tail()]%2 == 1 }

// after returns the state behind a step of a worker.
func (s state) after(t *testing.T, number int) state {
	t.Helper()
	before := s
	access := s.workers[number].next()
	m, answer, ok := memory.Apply(s.memory, access)
	if !ok {
		t.Fatalf("%+v is not granted", access)
	}
	s.memory = m
	s.workers = slices.Clone(s.workers)
	s.workers[number] = s.workers[number].resume(answer)
	switch w := s.workers[number].(type) {
	case pusher:
		s.watch(t, before, number, w, access, answer)
	case popper:
		if w.at == 7 {
			s.expectTaken(t, w)
		}
	}
	return s
}

// watch notes and checks what a step of a pusher did.
func (s *state) watch(t *testing.T, before state, number int, w pusher, access api.Access, answer api.Answer) {
	t.Helper()
	switch {
	case access.Address == s.head():
		w.full = before.isFull() && !before.isClosed()
	case access.Kind == api.Cas && answer.Ok:
		if w.swapped || before.isFull() || before.isClosed() {
			t.Fatalf("a push takes effect at %+v", before)
		}
		w.swapped = true
		s.pushed = append(slices.Clone(s.pushed), uint64(number))
	}
	s.workers[number] = w
	outcome, ended := push.End(w.frame)
	right := map[int]bool{
		0:             !ended,
		api.OutOk:     w.swapped,
		api.OutFull:   !w.swapped && w.full,
		api.OutClosed: !w.swapped && before.isClosed(),
	}
	if !right[outcome.Kind] {
		t.Fatalf("a push has the outcome %+v behind %+v", outcome, before)
	}
}

// expectTaken expects that a pop has taken the value whose sequence number it had.
func (s state) expectTaken(t *testing.T, w popper) {
	t.Helper()
	index := wrap(w.h - s.start())
	if index >= uint64(len(s.pushed)) || s.pushed[index] != w.taken {
		t.Fatalf("a pop with the number %d has taken %d: %+v", w.h, w.taken, s)
	}
}

// check expects that the ring contains what the pushes that have taken effect added, and that no two plain accesses race.
func (s state) check(t *testing.T) {
	t.Helper()
	tail := s.memory.Words[s.tail()] / 2
	if s.inside() > uint64(s.capacity()) || tail != wrap(s.start()+uint64(len(s.pushed))) {
		t.Fatalf("%d values are in the ring: %+v", s.inside(), s)
	}
	plain := map[int]int{}
	for _, w := range s.workers {
		switch a := w.next(); a.Kind {
		case api.Write:
			plain[a.Address] += 2
		case api.Read:
			plain[a.Address]++
		}
	}
	for address, weight := range plain {
		// Nothing but pushes and pops accesses a value, and no two pops read the same one.
		if weight > 2 {
			t.Fatalf("plain accesses to the word %d race: %+v", address, s)
		}
	}
}

// explore goes through all interleavings of some workers, and returns the number of states and, for each outcome, the number of moments in which a push ends with it.
func explore(t *testing.T, begin state) (states int, outcomes map[int]int) {
	t.Helper()
	seen := map[string]bool{}
	outcomes = map[int]int{}
	todo := []state{begin}
	for len(todo) > 0 {
		s := todo[len(todo)-1]
		todo = todo[:len(todo)-1]
		key := fmt.Sprint(s.memory, s.workers, s.pushed)
		if seen[key] {
			continue
		}
		seen[key] = true
		s.check(t)
		for number, w := range s.workers {
			if w.next() == (api.Access{}) {
				continue
			}
			after := s.after(t, number)
			if p, ok := after.workers[number].(pusher); ok {
				outcome, _ := push.End(p.frame)
				outcomes[outcome.Kind]++
			}
			todo = append(todo, after)
		}
	}
	return len(seen), outcomes
}

// crew returns the moment in which pushers, poppers and closers begin, behind pushes that fill a part of the ring. Each pusher adds its own number.
func crew(t *testing.T, r ring, filled, pushers, poppers, closers int) state {
	t.Helper()
	s := state{ring: r, memory: first(t, r.config)}
	for n := range filled {
		value := uint64(100 + n)
		s.memory, _ = run(t, s.memory, push.Start(r.config, r.channel, value), 6)
		s.pushed = append(s.pushed, value)
	}
	for n := range pushers {
		s.workers = append(s.workers, pusher{frame: push.Start(r.config, r.channel, uint64(n))})
	}
	for range poppers {
		s.workers = append(s.workers, popper{ring: r, at: 1})
	}
	for range closers {
		s.workers = append(s.workers, closer{ring: r, at: 1})
	}
	return s
}

func TestP8_2AllInterleavings(t *testing.T) {
	for _, c := range []struct {
		capacity                          int
		start                             uint64
		filled, pushers, poppers, closers int
		full, closed                      bool
	}{
		{1, 0, 0, 1, 0, 0, false, false},
		{1, 0, 1, 1, 0, 0, true, false},
		{1, last, 0, 2, 0, 0, true, false},
		{2, last, 0, 3, 0, 0, true, false},
		{3, last - 1, 1, 3, 0, 0, true, false},
		{1, 0, 1, 2, 1, 0, true, false},
		{1, last, 0, 2, 1, 0, true, false},
		{2, last - 1, 2, 2, 1, 0, true, false},
		{1, last - 1, 1, 1, 2, 0, true, false},
		{2, last, 1, 2, 2, 0, true, false},
		{1, 0, 0, 3, 1, 0, true, false},
		{1, 5, 0, 2, 0, 1, true, true},
		{2, 5, 1, 1, 1, 1, false, true},
		{1, last, 1, 1, 1, 1, true, true},
		{3, last - 2, 3, 1, 0, 1, true, true},
	} {
		begin := crew(t, ring{starting(c.start, c.capacity, 0), 0}, c.filled, c.pushers, c.poppers, c.closers)
		states, outcomes := explore(t, begin)
		if (outcomes[api.OutFull] > 0) != c.full || (outcomes[api.OutClosed] > 0) != c.closed {
			t.Errorf("%+v has the outcomes %v in %d states", c, outcomes, states)
		}
		if c.filled+c.pushers <= c.capacity && outcomes[api.OutOk] == 0 {
			t.Errorf("%+v: no push is done in %d states", c, states)
		}
	}
}

// A push that stands still at any place does not make another one wait: that one takes the same slot or the next one.
func TestAPushThatStandsStillDoesNotStopAnother(t *testing.T) {
	for accesses := range 6 {
		r := ring{starting(last, 2), 0}
		m, one := run(t, first(t, r.config), push.Start(r.config, 0, 1), accesses)
		m, two := run(t, m, push.Start(r.config, 0, 2), 6)
		expectEnded(t, two, api.OutOk)
		for n := 0; n < 20; n++ {
			if _, ok := push.End(one); ok {
				break
			}
			m, one = step(t, m, one)
		}
		expectEnded(t, one, api.OutOk)
		want := []uint64{2, 1}
		if accesses >= 4 {
			want = []uint64{1, 2}
		}
		if got := []uint64{m.Words[r.slotValue(last)], m.Words[r.slotValue(0)]}; !slices.Equal(got, want) {
			t.Errorf("behind %d accesses of the first push the values are %v, expected %v", accesses, got, want)
		}
	}
}

func TestMachinesDependOnTheirFramesOnly(t *testing.T) {
	r := ring{starting(0, 2, 0, 1), 0}
	f := push.Start(r.config, 0, 6)
	// One frame goes on in several ways, in any order.
	a, b := push.Resume(f, api.Answer{Value: 4}), push.Resume(f, api.Answer{Value: 2})
	other := push.Start(r.config, 2, 9)
	a2, b2 := push.Resume(a, api.Answer{Value: 1}), push.Resume(b, api.Answer{Value: 1})
	expectWants(t, push.Resume(other, api.Answer{}), api.Access{Kind: api.Load, Address: layout.Head(r.config, 2)})
	expectWants(t, f, api.Access{Kind: api.Load, Address: r.tail()})
	expectWants(t, a, api.Access{Kind: api.Load, Address: r.head()})
	expectWants(t, a2, api.Access{Kind: api.Load, Address: r.slotSeq(2)})
	expectWants(t, b2, api.Access{Kind: api.Load, Address: r.slotSeq(1)})
	expectWants(t, push.Resume(a, api.Answer{}), api.Access{Kind: api.Load, Address: r.tail()})
	expectEnded(t, push.Resume(push.Resume(a, api.Answer{}), api.Answer{Value: 4}), api.OutFull)
	if !reflect.DeepEqual(r.config, starting(0, 2, 0, 1)) || !reflect.DeepEqual(f, push.Start(r.config, 0, 6)) {
		t.Errorf("the configuration is now %+v, the frame %+v", r.config, f)
	}
}

func TestAConfigurationMayChangeBehindStart(t *testing.T) {
	c := starting(0, 2, 1)
	f := push.Start(c, 1, 6)
	c.Capacities[0], c.Capacities[1], c.Starts[1] = 16, 16, 99
	for _, s := range []exchange{load(9, 2), load(10, 1), load(16, 1), swap(9, 2, 4, true), write(17, 6), store(16, 2)} {
		expectWants(t, f, s.access)
		f = push.Resume(f, s.answer)
	}
	expectEnded(t, f, api.OutOk)
}

func TestArgumentsAreNotModified(t *testing.T) {
	capacities, starts := []int{3, 0, 91, 92}, []uint64{last, 4, 93, 94}
	c := api.Config{Capacities: capacities[:2], Starts: starts[:2], Threads: 2}
	f := push.Start(c, 0, 5)
	for _, a := range []api.Answer{{Value: 12}, {Value: 3}, {Value: 14}, {Value: 5}, {Value: 7}, {Ok: true}, {}, {}} {
		f.Words = append(slices.Clone(f.Words), 95, 96)[:len(f.Words)]
		f.List = append(slices.Clone(f.List), 97, 98)[:len(f.List)]
		words, list := slices.Clone(f.Words[:cap(f.Words)]), slices.Clone(f.List[:cap(f.List)])
		push.Next(f)
		push.End(f)
		after := push.Resume(f, a)
		if !slices.Equal(f.Words[:cap(f.Words)], words) || !slices.Equal(f.List[:cap(f.List)], list) {
			t.Fatalf("the frame is now %+v", f)
		}
		f = after
	}
	expectEnded(t, f, api.OutOk)
	if !slices.Equal(capacities, []int{3, 0, 91, 92}) || !slices.Equal(starts, []uint64{last, 4, 93, 94}) {
		t.Errorf("the configuration is now %v and %v", capacities, starts)
	}
}

// strange returns frames that no function of the package returned.
func strange() []api.Frame {
	list := []api.Frame{{}}
	for _, pc := range []int{math.MinInt, -1, 0, 1, 2, 3, 4, 5, 6, 7, 8, 9, 1 << 32, math.MaxInt} {
		for _, numbers := range [][]int{nil, {math.MinInt}, {1, 2, 3}, {1, 2, 3, 4}, {1, 2, -3, 4, 5}, {1, 2, math.MaxInt, 4, 5, 6}, make([]int, 9)} {
			for words := range 5 {
				f := api.Frame{Code: pc, Pc: pc, List: numbers, Words: slices.Repeat([]uint64{math.MaxUint64}, words)}
				list = append(list, f, api.Frame{Pc: f.Pc, List: f.List, Words: make([]uint64, words), Up: []api.Frame{f}})
			}
		}
	}
	return list
}

func TestTotality(t *testing.T) {
	frames := strange()
	configs := append(samples(), api.Config{}, api.Config{Capacities: []int{3}}, api.Config{Starts: []uint64{3}, Threads: math.MinInt},
		api.Config{Capacities: []int{1 << 30}, Starts: []uint64{0}, Threads: 1},
		api.Config{Capacities: []int{math.MinInt, -1, 17, 1 << 30, math.MaxInt}, Starts: []uint64{1 << 63}, Threads: math.MaxInt})
	for _, c := range configs {
		for _, channel := range []int{math.MinInt, -1, 0, 1, 2, 3, 8, 1 << 32, math.MaxInt} {
			frames = append(frames, push.Start(c, channel, math.MaxUint64))
		}
	}
	for _, f := range frames {
		for _, a := range []api.Answer{{}, {Ok: true}, {Value: 2}, {Value: math.MaxUint64, Late: true, List: []int{-1}}} {
			g := f
			for range 9 {
				push.Next(g)
				push.End(g)
				g = push.Resume(g, a)
			}
		}
	}
}

func Example() {
	c := api.Config{Capacities: []int{1, 0}, Starts: []uint64{0, 0}, Threads: 2}
	m, _ := layout.New(c)
	for value := range uint64(2) {
		f := push.Start(c, 0, 40+value)
		for push.Next(f) != (api.Access{}) {
			after, answer, _ := memory.Apply(m, push.Next(f))
			m, f = after, push.Resume(f, answer)
		}
		outcome, _ := push.End(f)
		fmt.Println(outcome.Kind == api.OutOk, outcome.Kind == api.OutFull)
	}
	fmt.Println(m.Words[layout.Tail(c, 0)], m.Words[layout.SlotValue(c, 0, 0)])
	// Output:
	// true false
	// false true
	// 2 40
}
