package linear_test

import (
	"math/rand"
	"slices"
	"testing"

	"chanfabric/api"
	"chanfabric/desk"
	"chanfabric/history"
	"chanfabric/linear"
	"chanfabric/model"
)

// at returns the index of the call of an operation in a history, or of its return, and -1 if there is none.
func at(l []api.Event, call [2]int, isReturn bool) int {
	return slices.IndexFunc(l, func(e api.Event) bool {
		return e.Thread == call[0] && e.Op == call[1] && e.Return == isReturn
	})
}

// isBefore reports whether a call precedes another one.
func isBefore(l []api.Event, a, b [2]int) bool {
	end, begin := at(l, a, true), at(l, b, false)
	return end != -1 && begin != -1 && end < begin
}

// stand returns the calls for which the elements of a list stand, and true; false if there is one that does not stand for a call of the history.
func stand(l []api.Event, order []api.Done) ([][2]int, bool) {
	seen := map[int]int{}
	var calls [][2]int
	for _, e := range order {
		x := [2]int{e.Thread, seen[e.Thread]}
		if at(l, x, false) == -1 {
			return nil, false
		}
		calls = append(calls, x)
		seen[e.Thread]++
	}
	return calls, true
}

// fulfils reports whether a list fulfils the four rules of a linearization.
func fulfils(c api.Config, ops [][]api.Op, l []api.Event, order []api.Done) bool {
	calls, ok := stand(l, order)
	if !ok {
		return false
	}
	for i, e := range l {
		x := [2]int{e.Thread, e.Op}
		if !e.Return {
			continue
		}
		if k := slices.Index(calls, x); k == -1 || order[k].Result != l[i].Result {
			return false
		}
	}
	for k, b := range calls {
		for _, e := range l {
			a := [2]int{e.Thread, e.Op}
			if isBefore(l, a, b) && !slices.Contains(calls[:k], a) {
				return false
			}
		}
	}
	return takesEffect(model.New(c), ops, l, order, calls)
}

// takesEffect reports whether a list fulfils rules 3 and 4.
func takesEffect(chans []api.Chan, ops [][]api.Op, l []api.Event, order []api.Done, calls [][2]int) bool {
	if len(order) == 0 {
		return true
	}
	first := ops[calls[0][0]][calls[0][1]]
	if after, ok := model.Apply(chans, first, order[0].Result); ok && takesEffect(after, ops, l, order[1:], calls[1:]) {
		return true
	}
	if len(order) == 1 || isBefore(l, calls[0], calls[1]) || isBefore(l, calls[1], calls[0]) {
		return false
	}
	second := ops[calls[1][0]][calls[1][1]]
	return model.Pair(chans, first, order[0].Result, second, order[1].Result) && takesEffect(chans, ops, l, order[2:], calls[2:])
}

// A trial goes through all linearizations of a history, without any memory.
type trial struct {
	ops   [][]api.Op
	l     []api.Event
	fixed bool // no call takes effect that has not returned
	end   func([]api.Chan) bool
}

// results returns the results with which a call can be in a list, at a moment when it could take one of some values.
func (x trial) results(call [2]int, values []uint64) []api.Result {
	if i := at(x.l, call, true); i != -1 {
		return []api.Result{x.l[i].Result}
	}
	if x.fixed {
		return nil
	}
	results := []api.Result{shutOk, blocked, late, counted(0), counted(1), counted(2), counted(3)}
	for i := -1; i < len(x.ops[call[0]][call[1]].Cases); i++ {
		results = append(results, sentBy(i), goneBy(i), panickedBy(i), gotBy(i, 0))
		for _, v := range values {
			results = append(results, gotBy(i, v))
		}
	}
	return results
}

// values returns all values that operations send.
func (x trial) values() []uint64 {
	var l []uint64
	for _, op := range slices.Concat(x.ops...) {
		l = append(l, op.Value)
		for _, part := range op.Cases {
			l = append(l, part.Value)
		}
	}
	slices.Sort(l)
	return slices.Compact(l)
}

// ready returns the calls that can be the next ones behind some others.
func (x trial) ready(done [][2]int) [][2]int {
	var l [][2]int
	for _, b := range history.Calls(x.l) {
		ok := !slices.Contains(done, b)
		for _, a := range history.Calls(x.l) {
			ok = ok && (!isBefore(x.l, a, b) || slices.Contains(done, a))
		}
		if ok {
			l = append(l, b)
		}
	}
	return l
}

// isDone reports whether all calls that have returned are among some.
func (x trial) isDone(done [][2]int) bool {
	for _, e := range x.l {
		if e.Return && !slices.Contains(done, [2]int{e.Thread, e.Op}) {
			return false
		}
	}
	return true
}

// from reports whether some elements can follow behind calls that have taken effect, so that a list has an end as it should.
func (x trial) from(chans []api.Chan, done [][2]int) bool {
	if x.isDone(done) && x.end(chans) {
		return true
	}
	values, ready := x.values(), x.ready(done)
	with := func(l ...[2]int) [][2]int { return slices.Concat(done, l) }
	for i, a := range ready {
		first := x.ops[a[0]][a[1]]
		for _, r := range x.results(a, values) {
			if after, ok := model.Apply(chans, first, r); ok && x.from(after, with(a)) {
				return true
			}
			for _, b := range ready[i+1:] {
				for _, q := range x.results(b, values) {
					if model.Pair(chans, first, r, x.ops[b[0]][b[1]], q) && x.from(chans, with(a, b)) {
						return true
					}
				}
			}
		}
	}
	return false
}

// isLinear is a second reading of P17.2.
func isLinear(s story) bool {
	x := trial{ops: s.ops, l: s.l, end: func([]api.Chan) bool { return true }}
	return x.from(model.New(s.config), nil)
}

// isSettled is a second reading of P17.3.
func isSettled(s story) bool {
	var waiting []api.Waiter
	for _, call := range history.Open(s.l) {
		waiting = append(waiting, api.Waiter{Thread: call[0], Op: s.ops[call[0]][call[1]]})
	}
	x := trial{ops: s.ops, l: s.l, fixed: true, end: func(chans []api.Chan) bool { return !model.Enabled(chans, waiting) }}
	return x.from(model.New(s.config), nil)
}

// expectReading compares all functions with the second reading, and returns whether there is a linearization and whether it is settled.
func expectReading(t *testing.T, s story) (bool, bool) {
	t.Helper()
	want := isLinear(s)
	if linear.Check(s.config, s.ops, s.l) != want {
		t.Fatalf("Check of %v, %v, %v is %v", s.config.Capacities, s.ops, s.l, !want)
	}
	order, found := linear.Witness(s.config, s.ops, s.l)
	if found != want || found && !fulfils(s.config, s.ops, s.l, order) || !found && order != nil {
		t.Fatalf("Witness of %v, %v, %v is %v, %v", s.config.Capacities, s.ops, s.l, order, found)
	}
	if after, ok := linear.Step(model.New(s.config), s.ops, order); !ok || after == nil && len(s.config.Capacities) > 0 {
		t.Fatalf("Step of %v is %v, %v", order, after, ok)
	}
	settled := isSettled(s)
	if linear.Settled(s.config, s.ops, s.l) != settled {
		t.Fatalf("Settled of %v, %v, %v is %v", s.config.Capacities, s.ops, s.l, !settled)
	}
	return want, settled
}

func TestStoriesAsRead(t *testing.T) {
	for _, s := range slices.Concat(possible(), impossible()) {
		if len(history.Calls(s.l)) < 8 {
			expectReading(t, s)
		}
	}
}

// eachHistory calls f with all histories of operations in which the returns have some results; seen counts the events of each thread.
func eachHistory(ops [][]api.Op, results func(api.Op) []api.Result, seen []int, l []api.Event, f func([]api.Event)) {
	f(l)
	for thread, n := range seen {
		if n == 2*len(ops[thread]) {
			continue
		}
		seen[thread]++
		e := api.Event{Thread: thread, Op: n / 2}
		if n%2 == 0 {
			eachHistory(ops, results, seen, append(l[:len(l):len(l)], e), f)
		} else {
			e.Return = true
			for _, e.Result = range results(ops[thread][n/2]) {
				eachHistory(ops, results, seen, append(l[:len(l):len(l)], e), f)
			}
		}
		seen[thread]--
	}
}

// usual returns results of an operation that are possible at some moment if only the values 5 and 6 are sent.
func usual(op api.Op) []api.Result {
	var results []api.Result
	part := func(i int, x api.Case) {
		if x.Send {
			results = append(results, sentBy(i), panickedBy(i))
		} else {
			results = append(results, gotBy(i, 5), gotBy(i, 6), goneBy(i))
		}
	}
	switch op.Kind {
	case api.Send, api.Recv:
		part(-1, api.Case{Send: op.Kind == api.Send})
	case api.Select:
		for i, x := range op.Cases {
			part(i, x)
		}
	case api.Close:
		return []api.Result{shutOk, panicked}
	case api.Len:
		return []api.Result{counted(0), counted(1), counted(2)}
	}
	switch op.Mode {
	case api.Try:
		results = append(results, blocked)
	case api.Timed:
		results = append(results, late)
	}
	return results
}

func TestAllShortHistories(t *testing.T) {
	counts := map[[2]bool]int{}
	for _, ops := range [][][]api.Op{
		programs(program(send(0, 5)), program(send(0, 6)), program(recv(0))),
		programs(program(send(0, 5)), program(recv(0)), program(recv(0))),
		programs(program(send(0, 5), recv(0)), program(recv(0))),
		programs(program(send(0, 5)), program(recv(0), recv(0))),
		programs(program(send(0, 5), send(0, 6)), program(length(0))),
		programs(program(send(0, 5), shut(0)), program(recv(0))),
		programs(program(send(0, 5)), program(shut(0)), program(recv(0))),
		programs(program(try(send(0, 5))), program(send(0, 6)), program(timed(recv(0)))),
		programs(program(choose(gives(0, 5), takes(0))), program(choose(gives(0, 6), takes(0)))),
		programs(program(choose(gives(0, 5), takes(1))), program(send(1, 6)), program(recv(0))),
		programs(program(try(choose(takes(0), takes(1)))), program(send(0, 5)), program(shut(1))),
	} {
		for _, config := range []api.Config{setup(0, 0), setup(1, 0), setup(2, 1)} {
			eachHistory(ops, usual, make([]int, len(ops)), nil, func(l []api.Event) {
				linear, settled := expectReading(t, story{config: config, ops: ops, l: l})
				counts[[2]bool{linear, settled}]++
			})
		}
	}
	t.Log(counts)
	if counts[[2]bool{true, true}] < 1000 || counts[[2]bool{true, false}] < 1000 || counts[[2]bool{false, false}] < 1000 {
		t.Errorf("linearizable and settled: %v", counts)
	}
}

// randomCase and randomOp return a case and an operation on one of some channels, or sometimes on a nil channel.
func randomCase(source *rand.Rand, channels int) api.Case {
	x := api.Case{Send: source.Intn(2) == 0, Channel: source.Intn(channels)}
	if source.Intn(12) == 0 {
		x.Channel = -1
	}
	if x.Send {
		x.Value = uint64(4 + source.Intn(3))
	}
	return x
}

func randomOp(source *rand.Rand, channels int) api.Op {
	x := randomCase(source, channels)
	op := recv(x.Channel)
	if x.Send {
		op = send(x.Channel, x.Value)
	}
	switch source.Intn(12) {
	case 0:
		return shut(x.Channel)
	case 1:
		return length(x.Channel)
	case 2:
		return capacity(x.Channel)
	case 3, 4, 5:
		op = choose()
		for range source.Intn(4) {
			op.Cases = append(op.Cases, randomCase(source, channels))
		}
		op.Draws = make([]int, len(op.Cases))
	}
	switch source.Intn(5) {
	case 0:
		return try(op)
	case 1:
		return timed(op)
	}
	return op
}

// randomOps returns operations of some threads, n in all.
func randomOps(source *rand.Rand, threads, channels, n int) [][]api.Op {
	ops := make([][]api.Op, threads)
	for range n {
		thread := source.Intn(threads)
		ops[thread] = append(ops[thread], randomOp(source, channels))
	}
	return ops
}

// A run lets operations of threads take effect at some moments between their calls and their returns.
type run struct {
	ops    [][]api.Op
	chans  []api.Chan
	next   []int
	called []bool
	result []api.Result // of an operation that has taken effect; its Kind is 0 before
	l      []api.Event
	order  []api.Done // the operations that have taken effect
}

// step lets a thread call its next operation, or lets this take effect, or return, if one of them is possible.
func (r *run) step(source *rand.Rand, thread int) {
	switch {
	case r.called[thread] && r.result[thread].Kind != 0:
		r.l = append(r.l, api.Event{Thread: thread, Op: r.next[thread], Return: true, Result: r.result[thread]})
		r.called[thread], r.result[thread] = false, api.Result{}
		r.next[thread]++
	case r.called[thread] && source.Intn(2) == 0:
		r.meet(source, thread, source.Intn(len(r.ops)))
	case r.called[thread]:
		r.affect(source, thread)
	case r.next[thread] < len(r.ops[thread]):
		r.l = append(r.l, api.Event{Thread: thread, Op: r.next[thread]})
		r.called[thread] = true
	}
}

// affect lets the operation of a thread take effect by itself, if it can.
func (r *run) affect(source *rand.Rand, thread int) {
	op := r.ops[thread][r.next[thread]]
	results := append(model.Could(r.chans, op), blocked, late)
	for n := range 8 {
		results = append(results, counted(n))
	}
	for _, i := range source.Perm(len(results)) {
		if after, ok := model.Apply(r.chans, op, results[i]); ok {
			r.chans, r.result[thread] = after, results[i]
			r.order = append(r.order, by(thread, results[i]))
			return
		}
	}
}

// meet lets the operations of two threads take effect together, if they can.
func (r *run) meet(source *rand.Rand, thread, other int) {
	if thread == other || !r.called[other] || r.result[other].Kind != 0 {
		return
	}
	a, b := r.ops[thread][r.next[thread]], r.ops[other][r.next[other]]
	for _, i := range source.Perm(1 + len(a.Cases)) {
		for j := range 1 + len(b.Cases) {
			for v := range uint64(8) {
				if model.Pair(r.chans, a, sentBy(i-1), b, gotBy(j-1, v)) {
					r.result[thread], r.result[other] = sentBy(i-1), gotBy(j-1, v)
					r.order = append(r.order, by(thread, sentBy(i-1)), by(other, gotBy(j-1, v)))
					return
				}
			}
		}
	}
}

// stretched returns a history in which all calls of a run come as early and all returns as late as its order allows.
func (r *run) stretched() []api.Event {
	var l []api.Event
	last := map[int]api.Result{}
	for thread, ops := range r.ops {
		if len(ops) > 0 {
			l = append(l, call(thread))
		}
	}
	for _, e := range r.order {
		if before, called := last[e.Thread]; called {
			l = append(l, ends(e.Thread, before), call(e.Thread))
		}
		last[e.Thread] = e.Result
	}
	for thread := range r.ops {
		if before, called := last[thread]; called {
			l = append(l, ends(thread, before))
		}
	}
	return events(l...)
}

// randomRun returns the history of a run, which has a linearization.
func randomRun(source *rand.Rand, c api.Config, ops [][]api.Op) story {
	r := newRun(source, c, ops)
	return story{config: c, ops: ops, l: r.l}
}

// newRun makes steps of random threads.
func newRun(source *rand.Rand, c api.Config, ops [][]api.Op) run {
	r := run{ops: ops, chans: model.New(c), next: make([]int, len(ops)), called: make([]bool, len(ops)), result: make([]api.Result, len(ops))}
	for range source.Intn(12 * (1 + len(slices.Concat(ops...)))) {
		r.step(source, source.Intn(len(ops)))
	}
	return r
}

// spoiled returns a story in which one result is another one, or one return comes earlier.
func spoiled(source *rand.Rand, s story) story {
	s.l = slices.Clone(s.l)
	if len(s.l) == 0 {
		return s
	}
	i := source.Intn(len(s.l))
	if !s.l[i].Return {
		return s
	}
	call := at(s.l, [2]int{s.l[i].Thread, s.l[i].Op}, false)
	switch source.Intn(3) {
	case 0:
		e := s.l[i]
		s.l = slices.Insert(slices.Delete(s.l, i, i+1), call+1+source.Intn(i-call), e)
	case 1:
		s.l[i].Result.Value ^= uint64(1 + source.Intn(3))
	default:
		results := append(usual(s.ops[s.l[i].Thread][s.l[i].Op]), sent)
		s.l[i].Result = results[source.Intn(len(results))]
	}
	return s
}

// randomConfig returns a configuration with some channels.
func randomConfig(source *rand.Rand, channels int) api.Config {
	c := setup()
	for range channels {
		c.Capacities = append(c.Capacities, source.Intn(4))
	}
	c.Starts = make([]uint64, channels)
	return c
}

func TestRandomShortHistories(t *testing.T) {
	source := rand.New(rand.NewSource(17))
	counts := map[[2]bool]int{}
	for range 20000 {
		channels := 1 + source.Intn(2)
		s := randomRun(source, randomConfig(source, channels), randomOps(source, 2+source.Intn(3), channels, 1+source.Intn(5)))
		if found, _ := expectReading(t, s); !found {
			t.Fatalf("no linearization of %v", s)
		}
		for range source.Intn(3) {
			s = spoiled(source, s)
		}
		found, settled := expectReading(t, s)
		counts[[2]bool{found, settled}]++
	}
	t.Log(counts)
	if counts[[2]bool{true, true}] < 1000 || counts[[2]bool{true, false}] < 1000 || counts[[2]bool{false, false}] < 1000 {
		t.Errorf("linearizable and settled: %v", counts)
	}
}

func TestP17_2RandomLongHistories(t *testing.T) {
	source := rand.New(rand.NewSource(1716))
	calls := 0
	for range 2000 {
		channels := 1 + source.Intn(4)
		s := randomRun(source, randomConfig(source, channels), randomOps(source, 2+source.Intn(7), channels, 8+source.Intn(9)))
		calls = max(calls, len(history.Calls(s.l)))
		order, found := linear.Witness(s.config, s.ops, s.l)
		if !found || !fulfils(s.config, s.ops, s.l, order) {
			t.Fatalf("Witness of %v is %v, %v", s, order, found)
		}
	}
	if calls != 16 {
		t.Errorf("at most %d calls", calls)
	}
}

func TestP17_2StretchedHistories(t *testing.T) {
	source := rand.New(rand.NewSource(1717))
	for range 3000 {
		channels := 1 + source.Intn(2)
		c, ops := randomConfig(source, channels), randomOps(source, 2+source.Intn(7), channels, 8+source.Intn(9))
		r := newRun(source, c, ops)
		l := r.stretched()
		if !history.Check(l, ops) {
			t.Fatalf("%v is not a history", l)
		}
		order, found := linear.Witness(c, ops, l)
		if !found || !fulfils(c, ops, l, order) {
			t.Fatalf("Witness of %v, %v, %v is %v, %v", c.Capacities, ops, l, order, found)
		}
		for range 8 {
			n := source.Intn(len(l) + 1)
			if !linear.Check(c, ops, l[:n]) {
				t.Fatalf("%v, %v, %v has a linearization, but its first %d events have none", c.Capacities, ops, l, n)
			}
		}
	}
}

func TestP17_4RandomHistories(t *testing.T) {
	source := rand.New(rand.NewSource(174))
	found := 0
	for range 2000 {
		channels := 1 + source.Intn(3)
		s := randomRun(source, randomConfig(source, channels), randomOps(source, 2+source.Intn(5), channels, source.Intn(10)))
		s = spoiled(source, s)
		expectSameWithCall(t, s)
		if !linear.Check(s.config, s.ops, s.l) {
			continue
		}
		found++
		for n := range s.l {
			if !linear.Check(s.config, s.ops, s.l[:n]) {
				t.Fatalf("%v has a linearization, but its first %d events have none", s, n)
			}
		}
	}
	if found < 500 || found > 1950 {
		t.Errorf("%d have a linearization", found)
	}
}

func TestP17_3Desks(t *testing.T) {
	source := rand.New(rand.NewSource(173))
	waited := 0
	for range 2000 {
		channels := 1 + source.Intn(3)
		s := story{config: randomConfig(source, channels), ops: make([][]api.Op, 2+source.Intn(5))}
		d := desk.New(s.config)
		for range 16 {
			thread := source.Intn(len(s.ops))
			if slices.ContainsFunc(d.Waiting, func(w api.Waiter) bool { return w.Thread == thread }) {
				continue
			}
			op := randomOp(source, channels)
			s.l = append(s.l, api.Event{Thread: thread, Op: len(s.ops[thread])})
			s.ops[thread] = append(s.ops[thread], op)
			var done []api.Done
			d, done, _ = desk.Do(d, thread, op)
			for _, e := range done {
				s.l = append(s.l, api.Event{Thread: e.Thread, Op: len(s.ops[e.Thread]) - 1, Return: true, Result: e.Result})
			}
			if !linear.Settled(s.config, s.ops, s.l) {
				t.Fatalf("after operations at a desk one by one %v is not settled", s)
			}
		}
		waited += len(d.Waiting)
	}
	if waited < 1000 {
		t.Errorf("only %d wait", waited)
	}
}
