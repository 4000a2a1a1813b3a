package claim_test

import (
	"fmt"
	"math"
	"math/rand"
	"reflect"
	"slices"
	"testing"

	"chanfabric/api"
	"chanfabric/claim"
	"chanfabric/layout"
	"chanfabric/memory"
)

const last = 1<<63 - 1 // the greatest sequence number

// starting returns a configuration whose rings all start at the same number.
func starting(start uint64, threads int, capacities ...int) api.Config {
	return api.Config{Capacities: capacities, Starts: slices.Repeat([]uint64{start}, len(capacities)), Threads: threads}
}

// samples returns valid configurations.
func samples() []api.Config {
	return []api.Config{
		{Threads: 1},
		starting(0, 1, 0),
		starting(0, 2, 2, 0),
		starting(last, 3, 1, 1, 0, 0, 3),
		starting(7, 8, 16, 16, 16, 16, 16, 16, 16, 16),
		{Capacities: []int{5, 0, 16, 1, 9, 2, 4, 8}, Starts: []uint64{0, 1, last, 1 << 62, 7, last - 3, 1<<62 - 1, 12345678901}, Threads: 8},
	}
}

// waiter is a thread of a configuration.
type waiter struct {
	config api.Config
	thread int
}

// waiters returns all threads of the samples.
func waiters() []waiter {
	var list []waiter
	for _, c := range samples() {
		for thread := range c.Threads {
			list = append(list, waiter{c, thread})
		}
	}
	return list
}

func (w waiter) claim() int { return layout.Claim(w.config, w.thread) }

func (w waiter) reserve() api.Frame { return claim.Reserve(w.config, w.thread) }

func (w waiter) undo() api.Frame { return claim.Undo(w.config, w.thread) }

func (w waiter) fire(r result) api.Frame {
	return claim.Fire(w.config, w.thread, r.index, r.kind, r.value)
}

func (w waiter) expire() api.Frame { return claim.Expire(w.config, w.thread) }

func (w waiter) rest() api.Frame { return claim.Rest(w.config, w.thread) }

// reserves is the access that a machine of Reserve wants.
func (w waiter) reserves() api.Access {
	return api.Access{Kind: api.Cas, Address: w.claim(), Old: api.Armed, New: api.Reserved}
}

// expires is the access that a machine of Expire wants.
func (w waiter) expires() api.Access {
	return api.Access{Kind: api.Cas, Address: w.claim(), Old: api.Armed, New: api.Expired}
}

// stores is the access that stores a state to the claim.
func (w waiter) stores(state uint64) api.Access {
	return api.Access{Kind: api.Store, Address: w.claim(), New: state}
}

// result is what is written for a thread.
type result struct {
	index, kind int
	value       uint64
}

// fires returns the accesses that a machine of Fire wants.
func (w waiter) fires(r result) []api.Access {
	return []api.Access{
		{Kind: api.Write, Address: layout.Case(w.config, w.thread), New: uint64(r.index)},
		{Kind: api.Write, Address: layout.Kind(w.config, w.thread), New: uint64(r.kind)},
		{Kind: api.Write, Address: layout.Value(w.config, w.thread), New: r.value},
		{Kind: api.Store, Address: w.claim(), New: api.Fired},
		{Kind: api.Store, Address: layout.Flag(w.config, w.thread), New: 1},
	}
}

// The outcomes of the machines.
var (
	done = api.Outcome{Kind: api.OutOk}
	won  = api.Outcome{Kind: api.OutWon}
	lost = api.Outcome{Kind: api.OutLost}
)

// states returns words that a claim may contain, and others.
func states() []uint64 {
	return []uint64{api.Idle, api.Armed, api.Reserved, api.Fired, api.Expired, 5, 1 << 32, 1<<32 + api.Reserved, 1<<63 + api.Reserved, math.MaxUint64}
}

// answers returns answers of all sorts with one of these words and this Ok.
func answers(ok bool, words ...uint64) []api.Answer {
	var list []api.Answer
	for _, word := range words {
		for _, late := range []bool{false, true} {
			list = append(list, api.Answer{Value: word, Ok: ok, Late: late}, api.Answer{Value: word, Ok: ok, Late: late, List: []int{2, 1}})
		}
	}
	return list
}

// anyAnswers returns answers of all sorts.
func anyAnswers() []api.Answer {
	return slices.Concat(answers(false, states()...), answers(true, states()...))
}

// expectWants expects that a machine wants an access, and has not ended.
func expectWants(t *testing.T, f api.Frame, want api.Access) {
	t.Helper()
	if got := claim.Next(f); got != want {
		t.Fatalf("Next = %+v, expected %+v", got, want)
	}
	if got, ok := claim.End(f); ok || got != (api.Outcome{}) {
		t.Fatalf("End of a machine that wants %+v = %+v, %v", want, got, ok)
	}
}

// expectEnded expects that a machine has ended with an outcome, and stays as it is whatever it is answered.
func expectEnded(t *testing.T, f api.Frame, want api.Outcome) {
	t.Helper()
	if got, ok := claim.End(f); !ok || got != want {
		t.Fatalf("End = %+v, %v, expected %+v", got, ok, want)
	}
	if got := claim.Next(f); got != (api.Access{}) {
		t.Fatalf("Next of a machine that has ended = %+v", got)
	}
	for _, a := range anyAnswers() {
		if got := claim.Resume(f, a); !reflect.DeepEqual(got, f) {
			t.Fatalf("Resume(%+v, %+v) = %+v, and it has ended", f, a, got)
		}
	}
}

// others returns the states of the list without one.
func others(list []uint64, state uint64) []uint64 {
	return slices.DeleteFunc(list, func(s uint64) bool { return s == state })
}

func TestP12_1Reserve(t *testing.T) {
	for _, w := range waiters() {
		expectWants(t, w.reserve(), w.reserves())
		for _, a := range answers(true, states()...) {
			expectEnded(t, claim.Resume(w.reserve(), a), won)
		}
		for _, a := range answers(false, others(states(), api.Reserved)...) {
			expectEnded(t, claim.Resume(w.reserve(), a), lost)
		}
	}
}

func TestP12_1ReserveTriesAgain(t *testing.T) {
	for _, w := range waiters() {
		f := w.reserve()
		for range 100 {
			for _, a := range answers(false, api.Reserved) {
				f = claim.Resume(f, a)
				expectWants(t, f, w.reserves())
			}
		}
		for _, a := range answers(true, states()...) {
			expectEnded(t, claim.Resume(f, a), won)
		}
		for _, a := range answers(false, others(states(), api.Reserved)...) {
			expectEnded(t, claim.Resume(f, a), lost)
		}
	}
}

func TestP12_2UndoAndRest(t *testing.T) {
	for _, w := range waiters() {
		expectWants(t, w.undo(), w.stores(api.Armed))
		expectWants(t, w.rest(), w.stores(api.Idle))
		// A Store is answered without Ok; the machines end with any answer.
		for _, a := range anyAnswers() {
			expectEnded(t, claim.Resume(w.undo(), a), done)
			expectEnded(t, claim.Resume(w.rest(), a), done)
		}
	}
}

// someResults returns results of operations, and others with numbers from the ends of their types.
func someResults() []result {
	return []result{
		{0, 0, 0}, {0, api.OutGot, 77}, {api.MaxCases - 1, api.OutDrained, 0}, {3, api.OutOk, math.MaxUint64}, {1, api.OutClosed, 1 << 63},
		{-1, -2, 3}, {math.MinInt, math.MaxInt, last}, {math.MaxInt, math.MinInt, 1}, {7, 8, 9}, {9, 8, 7},
	}
}

func TestP12_3Fire(t *testing.T) {
	random := rand.New(rand.NewSource(12))
	all := anyAnswers()
	for _, w := range waiters() {
		for _, r := range someResults() {
			// Neither a Write nor a Store is answered with anything; any answer lets the machine go on.
			for _, a := range all {
				f := w.fire(r)
				for _, want := range w.fires(r) {
					expectWants(t, f, want)
					f = claim.Resume(f, a)
					a = all[random.Intn(len(all))]
				}
				if got, ok := claim.End(f); !ok || got != done {
					t.Fatalf("End = %+v, %v", got, ok)
				}
			}
			f := w.fire(r)
			for range 5 {
				f = claim.Resume(f, api.Answer{})
			}
			expectEnded(t, f, done)
		}
	}
}

func TestP12_4Expire(t *testing.T) {
	for _, w := range waiters() {
		expectWants(t, w.expire(), w.expires())
		for _, a := range answers(true, states()...) {
			expectEnded(t, claim.Resume(w.expire(), a), won)
		}
		// Also when the claim is reserved: it does not try again.
		for _, a := range answers(false, states()...) {
			expectEnded(t, claim.Resume(w.expire(), a), lost)
		}
	}
}

// The words of the threads lie behind the 16 words of the channels, 11 of each thread: Claim, Flag, Kind, Case, Value, Out.
func TestNumbersOfTheWords(t *testing.T) {
	c := starting(0, 3, 2, 0)
	for thread, word := range []int{16, 27, 38} {
		for _, e := range []struct {
			name  string
			frame api.Frame
			want  []api.Access
		}{
			{"Reserve", claim.Reserve(c, thread), []api.Access{{Kind: 3, Address: word, Old: 1, New: 2}}},
			{"Undo", claim.Undo(c, thread), []api.Access{{Kind: 2, Address: word, New: 1}}},
			{"Expire", claim.Expire(c, thread), []api.Access{{Kind: 3, Address: word, Old: 1, New: 4}}},
			{"Rest", claim.Rest(c, thread), []api.Access{{Kind: 2, Address: word}}},
			{"Fire", claim.Fire(c, thread, 5, 6, 7), []api.Access{
				{Kind: 6, Address: word + 3, New: 5}, {Kind: 6, Address: word + 2, New: 6}, {Kind: 6, Address: word + 4, New: 7},
				{Kind: 2, Address: word, New: 3}, {Kind: 2, Address: word + 1, New: 1}}},
		} {
			t.Run(fmt.Sprint(e.name, thread), func(t *testing.T) {
				f := e.frame
				for _, want := range e.want {
					expectWants(t, f, want)
					f = claim.Resume(f, api.Answer{})
				}
				if _, ok := claim.End(f); !ok {
					t.Errorf("%s has not ended behind %d accesses", e.name, len(e.want))
				}
			})
		}
	}
}

// first returns the memory with which a configuration begins, but with this word as the claim of a thread.
func (w waiter) first(t *testing.T, state uint64) api.Memory {
	t.Helper()
	m, errno := layout.New(w.config)
	if errno != api.OK {
		t.Fatalf("New(%+v) = %d", w.config, errno)
	}
	m, _, _ = memory.Apply(m, w.stores(state))
	return m
}

// step makes the access that a machine wants.
func step(t *testing.T, m api.Memory, f api.Frame) (api.Memory, api.Frame) {
	t.Helper()
	after, answer, ok := memory.Apply(m, claim.Next(f))
	if !ok {
		t.Fatalf("%+v is not granted", claim.Next(f))
	}
	return after, claim.Resume(f, answer)
}

// run makes all accesses of a machine that is alone, and returns the memory and the outcome behind them, and their number.
func run(t *testing.T, m api.Memory, f api.Frame) (api.Memory, api.Outcome, int) {
	t.Helper()
	for accesses := range 10 {
		if outcome, ok := claim.End(f); ok {
			return m, outcome, accesses
		}
		m, f = step(t, m, f)
	}
	t.Fatalf("a machine does not end: %+v", f)
	return m, api.Outcome{}, 0
}

// In each state of the claim each machine that is alone changes the words of its thread as promised, and no others.
func TestMachinesAlone(t *testing.T) {
	r := result{3, api.OutGot, 88}
	for _, w := range waiters() {
		for _, state := range states() {
			tried := func(outcome api.Outcome, then uint64) (api.Outcome, uint64) {
				if state == api.Armed {
					return outcome, then
				}
				return lost, state
			}
			reserved, thenReserved := tried(won, api.Reserved)
			expired, thenExpired := tried(won, api.Expired)
			for _, e := range []struct {
				frame    api.Frame
				outcome  api.Outcome
				then     uint64
				accesses int
			}{
				{w.reserve(), reserved, thenReserved, 1},
				{w.expire(), expired, thenExpired, 1},
				{w.undo(), done, api.Armed, 1},
				{w.rest(), done, api.Idle, 1},
				{w.fire(r), done, api.Fired, 5},
			} {
				if state == api.Reserved && claim.Next(e.frame) == w.reserves() {
					continue // it goes on for ever
				}
				before := w.first(t, state)
				want := slices.Clone(before.Words)
				want[w.claim()] = e.then
				if e.accesses == 5 {
					want[layout.Case(w.config, w.thread)] = 3
					want[layout.Kind(w.config, w.thread)] = api.OutGot
					want[layout.Value(w.config, w.thread)] = 88
					want[layout.Flag(w.config, w.thread)] = 1
				}
				m, outcome, accesses := run(t, before, e.frame)
				if outcome != e.outcome || accesses != e.accesses || !slices.Equal(m.Words, want) {
					t.Fatalf("from state %d: outcome %+v behind %d accesses, words %v, expected %+v, %d, %v", state, outcome, accesses, m.Words, e.outcome, e.accesses, want)
				}
			}
		}
	}
}

// What a worker does when it has won.
const (
	keeps = iota
	undoes
	fires
)

// worker is somebody who claims a thread, and goes on when the claim was won.
type worker struct {
	frame       api.Frame
	then, turns int  // what it does then, and how often it does all of this
	expires     bool // it does not reserve
	holds       bool // it has won, and has not undone that
	idle        bool // nothing is left to do
}

// state is a moment of some workers that claim one thread.
type state struct {
	waiter
	memory  api.Memory
	workers []worker
	wins    int
	undone  int
}

// resultOf returns what a worker writes. Each one writes something else.
func resultOf(index int) result {
	return result{index, index + 10, uint64(index) + 100}
}

// begin returns the moment in which the workers begin.
func begin(t *testing.T, w waiter, workers []worker) state {
	t.Helper()
	s := state{waiter: w, memory: w.first(t, api.Armed)}
	for _, one := range workers {
		one.frame = w.reserve()
		if one.expires {
			one.frame = w.expire()
		}
		s.workers = append(s.workers, one)
	}
	return s
}

// after returns the state behind a step of the worker with this index.
func (s state) after(t *testing.T, index int) state {
	t.Helper()
	s.workers = slices.Clone(s.workers)
	w := &s.workers[index]
	s.memory, w.frame = step(t, s.memory, w.frame)
	outcome, ok := claim.End(w.frame)
	switch {
	case !ok:
	case outcome == won:
		s.wins++
		w.holds = true
		switch w.then {
		case keeps:
			w.idle = true
		case undoes:
			w.frame = s.undo()
		case fires:
			w.frame = s.fire(resultOf(index))
		}
	case outcome == lost || w.then == fires:
		w.idle = true
	default:
		s.undone++
		w.holds = false
		w.turns--
		w.idle = w.turns == 0
		w.frame = s.reserve()
	}
	return s
}

// holders returns the indexes of the workers that have won and have not undone that.
func (s state) holders() []int {
	var list []int
	for index, w := range s.workers {
		if w.holds {
			list = append(list, index)
		}
	}
	return list
}

// check expects that one worker at most has the thread, and that a result is complete when the thread may go on.
func (s state) check(t *testing.T) {
	t.Helper()
	holders, word := s.holders(), s.memory.Words[s.claim()]
	if len(holders) > 1 || (len(holders) == 0) != (word == api.Armed) || s.wins != s.undone+len(holders) {
		t.Fatalf("the claim is %d, and %v have won: %+v", word, holders, s)
	}
	if s.memory.Words[layout.Flag(s.config, s.thread)] == 0 {
		return
	}
	if len(holders) != 1 || word != api.Fired {
		t.Fatalf("the flag is set, the claim is %d, and %v have won: %+v", word, holders, s)
	}
	r := resultOf(holders[0])
	for _, e := range [][2]uint64{
		{s.memory.Words[layout.Case(s.config, s.thread)], uint64(r.index)},
		{s.memory.Words[layout.Kind(s.config, s.thread)], uint64(r.kind)},
		{s.memory.Words[layout.Value(s.config, s.thread)], r.value},
	} {
		if e[0] != e[1] {
			t.Fatalf("the flag is set, and the result has %d where %d is expected: %+v", e[0], e[1], s)
		}
	}
}

// checkEnd expects, where nothing but attempts in vain is left, that one worker has won. Only where a reservation was undone, nobody may have the thread at last: an Expire has lost against a reservation, and everybody who reserves undoes it.
func (s state) checkEnd(t *testing.T) {
	t.Helper()
	stays := s.undone == 0
	for _, w := range s.workers {
		stays = stays || !w.expires && w.then != undoes
		if !w.idle && (s.memory.Words[s.claim()] != api.Reserved || claim.Next(w.frame) != s.reserves()) {
			t.Fatalf("a worker that wants %+v does not go on: %+v", claim.Next(w.frame), s)
		}
	}
	if stays && len(s.holders()) != 1 {
		t.Fatalf("%v have won: %+v", s.holders(), s)
	}
}

// explore goes through all interleavings of some workers, and returns the numbers of states and of ends.
func explore(t *testing.T, s state) (states, ends int) {
	t.Helper()
	seen := map[string]bool{}
	todo := []state{s}
	for len(todo) > 0 {
		s := todo[len(todo)-1]
		todo = todo[:len(todo)-1]
		key := fmt.Sprint(s)
		if seen[key] {
			continue
		}
		seen[key] = true
		s.check(t)
		moves := 0
		for index, w := range s.workers {
			if w.idle {
				continue
			}
			if after := s.after(t, index); fmt.Sprint(after) != key {
				moves++
				todo = append(todo, after)
			}
		}
		if moves == 0 {
			ends++
			s.checkEnd(t)
		}
	}
	return len(seen), ends
}

func TestP12_5ExactlyOneWins(t *testing.T) {
	reserver, expirer := worker{then: keeps}, worker{then: keeps, expires: true}
	firer, undoer, twice := worker{then: fires}, worker{then: undoes, turns: 1}, worker{then: undoes, turns: 2}
	for _, c := range []struct {
		workers []worker
		ends    int
	}{
		// Each one may win. When a reserver has, the other reservers try for ever, so that only the expirers end.
		{[]worker{reserver}, 1},
		{[]worker{expirer}, 1},
		{[]worker{reserver, reserver, reserver, reserver}, 4},
		{[]worker{expirer, expirer, expirer, expirer}, 4},
		{[]worker{reserver, expirer}, 2},
		{[]worker{reserver, reserver, expirer, expirer, expirer}, 5},
		{[]worker{firer}, 1},
		{[]worker{firer, firer, firer}, 3},
		{[]worker{firer, firer, expirer, expirer}, 4},
		{[]worker{firer, reserver, expirer}, 3},
		// Who undoes it lets another one win.
		{[]worker{undoer}, 1},
		{[]worker{twice, twice}, 1},
	} {
		for _, w := range []waiter{{starting(last, 2, 2, 0), 0}, {starting(last, 2, 2, 0), 1}, {api.Config{Threads: 8}, 5}} {
			if states, ends := explore(t, begin(t, w, c.workers)); ends != c.ends || states < 2 {
				t.Errorf("%+v have %d states and %d ends, expected %d", c.workers, states, ends, c.ends)
			}
		}
	}
	for _, workers := range [][]worker{
		{undoer, reserver}, {undoer, expirer}, {undoer, firer}, {twice, firer, firer, expirer}, {undoer, undoer, undoer, firer, expirer}, {twice, twice, firer},
	} {
		if states, ends := explore(t, begin(t, waiter{starting(5, 3, 1), 2}, workers)); ends == 0 || states < 4 {
			t.Errorf("%+v have %d states and %d ends", workers, states, ends)
		}
	}
}

// A machine of Reserve waits for what becomes of a reservation.
func TestP12_1ReserveWaitsForTheOther(t *testing.T) {
	for _, w := range waiters() {
		for _, e := range []struct {
			other   api.Frame
			outcome api.Outcome
		}{{w.undo(), won}, {w.fire(result{1, 2, 3}), lost}, {w.rest(), lost}} {
			m := w.first(t, api.Reserved)
			f := w.reserve()
			for other := e.other; claim.Next(other) != (api.Access{}); {
				m, f = step(t, m, f)
				// While the claim is reserved, the other one still has something to do.
				expectWants(t, f, w.reserves())
				m, other = step(t, m, other)
				if m.Words[w.claim()] != api.Reserved {
					break
				}
			}
			_, outcome, accesses := run(t, m, f)
			if outcome != e.outcome || accesses != 1 {
				t.Fatalf("outcome %+v behind %d accesses, expected %+v", outcome, accesses, e.outcome)
			}
		}
	}
}

// The claims of the threads do not depend on one another.
func TestP12_5EachThreadHasItsOwnClaim(t *testing.T) {
	for _, c := range samples() {
		m, _ := layout.New(c)
		for thread := range c.Threads {
			m, _, _ = memory.Apply(m, waiter{c, thread}.stores(api.Armed))
		}
		for thread := range c.Threads {
			w := waiter{c, thread}
			before := slices.Clone(m.Words)
			before[w.claim()] = api.Reserved
			var outcome api.Outcome
			m, outcome, _ = run(t, m, w.reserve())
			if outcome != won || !slices.Equal(m.Words, before) {
				t.Fatalf("outcome %+v, words %v, expected %v", outcome, m.Words, before)
			}
		}
	}
}

func TestMachinesDependOnTheirFramesOnly(t *testing.T) {
	c := starting(0, 3, 2, 0, 1)
	w, other := waiter{c, 1}, waiter{c, 2}
	r, s := result{1, 2, 3}, result{4, 5, 6}
	reserve, fire := w.reserve(), w.fire(r)
	half := claim.Resume(claim.Resume(fire, api.Answer{}), api.Answer{})
	other.fire(s)
	other.expire()
	// One frame goes on in several ways, in any order.
	for range 2 {
		expectEnded(t, claim.Resume(reserve, api.Answer{Ok: true}), won)
		expectEnded(t, claim.Resume(reserve, api.Answer{Value: api.Fired}), lost)
		expectWants(t, claim.Resume(reserve, api.Answer{Value: api.Reserved}), w.reserves())
		expectWants(t, reserve, w.reserves())
		expectWants(t, fire, w.fires(r)[0])
		expectWants(t, half, w.fires(r)[2])
		f := half
		for _, want := range w.fires(r)[2:] {
			expectWants(t, f, want)
			f = claim.Resume(f, api.Answer{})
		}
		expectEnded(t, f, done)
	}
	if !reflect.DeepEqual(c, starting(0, 3, 2, 0, 1)) || !reflect.DeepEqual(reserve, w.reserve()) || !reflect.DeepEqual(fire, w.fire(r)) {
		t.Errorf("the configuration is now %+v, the frames %+v and %+v", c, reserve, fire)
	}
	if !reflect.DeepEqual(claim.Resume(reserve, api.Answer{Value: api.Reserved}), reserve) {
		t.Error("a machine that tries again is not the machine that Reserve returns")
	}
}

func TestAConfigurationMayChangeBehindTheStart(t *testing.T) {
	c, kept := starting(0, 3, 2, 1), starting(0, 3, 2, 1)
	w, r := waiter{kept, 1}, result{1, 2, 3}
	f, reserve := claim.Fire(c, 1, 1, 2, 3), claim.Reserve(c, 1)
	c.Capacities[0], c.Capacities[1], c.Starts[1] = 16, 16, 99
	for _, want := range w.fires(r) {
		expectWants(t, f, want)
		f = claim.Resume(f, api.Answer{})
	}
	expectWants(t, claim.Resume(reserve, api.Answer{Value: api.Reserved}), w.reserves())
}

func TestArgumentsAreNotModified(t *testing.T) {
	capacities, starts := []int{3, 0, 91, 92}, []uint64{last, 4, 93, 94}
	c := api.Config{Capacities: capacities[:2], Starts: starts[:2], Threads: 2}
	w := waiter{c, 1}
	for _, f := range []api.Frame{w.reserve(), w.undo(), w.fire(result{1, 2, 3}), w.expire(), w.rest()} {
		for range 6 {
			f.Words = append(slices.Clone(f.Words), 95, 96)[:len(f.Words)]
			f.List = append(slices.Clone(f.List), 97, 98)[:len(f.List)]
			words, list := slices.Clone(f.Words[:cap(f.Words)]), slices.Clone(f.List[:cap(f.List)])
			for _, a := range anyAnswers() {
				claim.Next(f)
				claim.End(f)
				claim.Resume(f, a)
			}
			if !slices.Equal(f.Words[:cap(f.Words)], words) || !slices.Equal(f.List[:cap(f.List)], list) {
				t.Fatalf("the frame is now %+v", f)
			}
			f = claim.Resume(f, api.Answer{})
		}
	}
	if !slices.Equal(capacities, []int{3, 0, 91, 92}) || !slices.Equal(starts, []uint64{last, 4, 93, 94}) {
		t.Errorf("the configuration is now %v and %v", capacities, starts)
	}
}

// strange returns frames that no function of the package returned.
func strange() []api.Frame {
	list := []api.Frame{{}}
	pcs := []int{math.MinInt, -1, 1 << 32, math.MaxInt}
	for pc := range 13 {
		pcs = append(pcs, pc)
	}
	for _, pc := range pcs {
		for numbers := range 7 {
			for words := range 5 {
				f := api.Frame{Code: pc, Pc: pc, List: slices.Repeat([]int{math.MinInt}, numbers), Words: slices.Repeat([]uint64{math.MaxUint64}, words)}
				list = append(list, f, api.Frame{Pc: f.Pc, List: make([]int, numbers), Words: make([]uint64, words), Up: []api.Frame{f}})
			}
		}
	}
	return list
}

func TestTotality(t *testing.T) {
	frames := strange()
	configs := append(samples(), api.Config{}, api.Config{Capacities: []int{3}}, api.Config{Starts: []uint64{3}, Threads: math.MinInt},
		api.Config{Capacities: []int{math.MinInt, -1, 17, 1 << 30, math.MaxInt}, Starts: []uint64{1 << 63}, Threads: math.MaxInt})
	for _, c := range configs {
		for _, thread := range []int{math.MinInt, -1, 0, 1, 8, 1 << 32, math.MaxInt} {
			w := waiter{c, thread}
			frames = append(frames, w.reserve(), w.undo(), w.fire(result{thread, math.MinInt, math.MaxUint64}), w.expire(), w.rest())
		}
	}
	for _, f := range frames {
		for _, a := range []api.Answer{{}, {Ok: true}, {Value: api.Reserved}, {Value: math.MaxUint64, Late: true, List: []int{-1}}} {
			g := f
			for range 6 {
				claim.Next(g)
				// R4: beside false there is no outcome, whatever the frame is.
				if got, ok := claim.End(g); !ok && got != (api.Outcome{}) {
					t.Fatalf("End(%+v) = %+v, %v", g, got, ok)
				}
				g = claim.Resume(g, a)
			}
		}
	}
}

func Example() {
	c := api.Config{Capacities: []int{2, 0}, Starts: []uint64{0, 0}, Threads: 2}
	m, _ := layout.New(c)
	m, _, _ = memory.Apply(m, api.Access{Kind: api.Store, Address: layout.Claim(c, 1), New: api.Armed})
	reserve, expire := claim.Reserve(c, 1), claim.Expire(c, 1)
	m, answer, _ := memory.Apply(m, claim.Next(reserve))
	reserve = claim.Resume(reserve, answer)
	_, answer, _ = memory.Apply(m, claim.Next(expire))
	expire = claim.Resume(expire, answer)
	fmt.Println(claim.End(reserve))
	fmt.Println(claim.End(expire))
	// Output:
	// {7 0} true
	// {8 0} true
}
