package desk_test

import (
	"fmt"
	"math"
	"math/rand"
	"reflect"
	"slices"
	"testing"

	"chanfabric/api"
	"chanfabric/cases"
	"chanfabric/desk"
	"chanfabric/layout"
	"chanfabric/model"
)

// setup returns a valid configuration with these capacities.
func setup(capacities ...int) api.Config {
	return api.Config{Capacities: capacities, Starts: make([]uint64, len(capacities)), Threads: api.MaxThreads}
}

// open and closed return channels.
func open(capacity int, values ...uint64) api.Chan {
	return api.Chan{Capacity: capacity, Buffer: values}
}

func closed(capacity int, values ...uint64) api.Chan {
	return api.Chan{Capacity: capacity, Buffer: values, Closed: true}
}

// send, recv, shut, length and capacity return operations on one channel; choose one on several, which tries its cases as they are listed.
func send(channel int, value uint64) api.Op {
	return api.Op{Kind: api.Send, Channel: channel, Value: value}
}

func recv(channel int) api.Op { return api.Op{Kind: api.Recv, Channel: channel} }

func shut(channel int) api.Op { return api.Op{Kind: api.Close, Channel: channel} }

func length(channel int) api.Op { return api.Op{Kind: api.Len, Channel: channel} }

func capacity(channel int) api.Op { return api.Op{Kind: api.Cap, Channel: channel} }

func choose(l ...api.Case) api.Op {
	op := api.Op{Kind: api.Select, Cases: l}
	for i := range l {
		op.Draws = append(op.Draws, i)
	}
	return op
}

// drawn, try and until give an operation draws or another mode.
func drawn(op api.Op, draws ...int) api.Op {
	op.Draws = draws
	return op
}

func try(op api.Op) api.Op {
	op.Mode = api.Try
	return op
}

func until(op api.Op, deadline int) api.Op {
	op.Mode, op.Deadline = api.Timed, deadline
	return op
}

// gives and takes return cases.
func gives(channel int, value uint64) api.Case {
	return api.Case{Send: true, Channel: channel, Value: value}
}

func takes(channel int) api.Case { return api.Case{Channel: channel} }

// The returns of operations, each with the Case of its result.
func sent(thread, index int) api.Done {
	return api.Done{Thread: thread, Result: api.Result{Kind: api.Sent, Case: index}}
}

func got(thread, index int, value uint64) api.Done {
	return api.Done{Thread: thread, Result: api.Result{Kind: api.Received, Case: index, Value: value, Ok: true}}
}

func gone(thread, index int) api.Done {
	return api.Done{Thread: thread, Result: api.Result{Kind: api.Received, Case: index}}
}

func panicked(thread, index int) api.Done {
	return api.Done{Thread: thread, Result: api.Result{Kind: api.Panicked, Case: index}}
}

func blocked(thread int) api.Done {
	return api.Done{Thread: thread, Result: api.Result{Kind: api.WouldBlock, Case: -1}}
}

func late(thread int) api.Done {
	return api.Done{Thread: thread, Result: api.Result{Kind: api.TimedOut, Case: -1}}
}

func shutOk(thread int) api.Done {
	return api.Done{Thread: thread, Result: api.Result{Kind: api.Closed, Case: -1}}
}

func counted(thread, number int) api.Done {
	return api.Done{Thread: thread, Result: api.Result{Kind: api.Counted, Case: -1, Number: number}}
}

// A step is an operation of a thread, or, without one, n units of time that pass, and what returns by this.
type step struct {
	thread, n int
	op        api.Op
	returns   []api.Done
}

// ends is a step that ends with these returns, waits one after which the thread waits, and ticks one in which time passes.
func ends(thread int, op api.Op, returns ...api.Done) step {
	return step{thread: thread, op: op, returns: returns}
}

func waits(thread int, op api.Op) step { return step{thread: thread, op: op} }

func ticks(n int, returns ...api.Done) step { return step{n: n, returns: returns} }

// play makes steps, beginning with a new desk, and expects that each one ends as it says.
func play(t *testing.T, c api.Config, steps ...step) api.Desk {
	t.Helper()
	d := desk.New(c)
	for i, s := range steps {
		var returns []api.Done
		waiting := s.op.Kind != 0 && len(s.returns) == 0
		before := d
		var now bool
		if s.op.Kind == 0 {
			d, returns = desk.Tick(d, s.n)
		} else {
			if errno := cases.Check(s.op); errno != api.OK {
				t.Fatalf("step %d: the operation %+v is not valid", i, s.op)
			}
			d, returns, now = desk.Do(d, s.thread, s.op)
		}
		if !slices.Equal(returns, s.returns) || now != waiting {
			t.Fatalf("step %d: %+v on %+v returns %+v, %v, expected %+v, %v", i, s, before, returns, now, s.returns, waiting)
		}
		if waiting && (len(d.Waiting) == 0 || !reflect.DeepEqual(d.Waiting[len(d.Waiting)-1], api.Waiter{Thread: s.thread, Op: s.op})) {
			t.Fatalf("step %d: the operation %+v is not the last one that waits: %+v", i, s.op, d.Waiting)
		}
	}
	return d
}

// expectDesk expects the channels of a desk, the threads that wait at it, and its time.
func expectDesk(t *testing.T, d api.Desk, tick int, threads []int, l ...api.Chan) {
	t.Helper()
	var waiting []int
	for _, w := range d.Waiting {
		waiting = append(waiting, w.Thread)
	}
	if !model.Same(d.Chans, l) || !slices.Equal(waiting, threads) || d.Tick != tick {
		t.Errorf("the desk is %+v, expected the channels %+v, the threads %v and the time %d", d, l, threads, tick)
	}
}

func TestP15_1New(t *testing.T) {
	for _, c := range []api.Config{
		setup(),
		setup(0),
		setup(3, 0, 16, 1),
		{Capacities: make([]int, 8), Starts: []uint64{1, 2, 3, 4, 5, 6, 7, 1<<63 - 1}, Threads: 1},
		{Capacities: []int{2, 5}, Starts: []uint64{1<<63 - 1, 0}, Threads: 3},
	} {
		if layout.Check(c) != api.OK {
			t.Fatalf("%+v is not valid", c)
		}
		d := desk.New(c)
		if !model.Same(d.Chans, model.New(c)) || len(d.Waiting) != 0 || d.Tick != 0 {
			t.Errorf("New(%+v) = %+v", c, d)
		}
	}
}

func TestP15_1ReadyByItself(t *testing.T) {
	d := api.Desk{Chans: []api.Chan{open(0), closed(0), open(2), open(2, 7), open(2, 7, 8), closed(2), closed(2, 7)}}
	for channel := -3; channel < 10; channel++ {
		for _, x := range []api.Case{takes(channel), gives(channel, 0), gives(channel, 7)} {
			if got := desk.Ready(d, 0, x); got != model.Ready(d.Chans, x) {
				t.Errorf("Ready of %+v = %v", x, got)
			}
		}
	}
}

func TestP15_1ReadyWithPartner(t *testing.T) {
	config := setup(0, 0, 1, 1, 0)
	d := play(t, config,
		waits(2, recv(0)),
		waits(3, send(1, 5)),
		waits(4, recv(2)),
		ends(5, send(3, 6), sent(5, -1)),
		waits(5, choose(takes(-1), gives(3, 7), takes(7), gives(4, 1), takes(4))),
		waits(6, recv(-1)),
		waits(7, send(5, 3)))
	for _, c := range []struct {
		thread int
		x      api.Case
		want   bool
	}{
		{0, gives(0, 1), true}, {0, takes(0), false}, {0, takes(1), true}, {0, gives(1, 1), false},
		{0, gives(2, 1), true}, {0, takes(2), false}, {0, takes(3), true}, {0, gives(3, 1), false},
		{0, takes(4), true}, {0, gives(4, 1), true},
		// A thread is not its own partner.
		{2, gives(0, 1), false}, {3, takes(1), false}, {5, takes(4), false}, {5, gives(4, 1), false}, {4, gives(2, 1), true},
		// Nobody meets at a nil channel.
		{0, gives(-1, 1), false}, {0, takes(-1), false}, {0, takes(5), false}, {0, gives(5, 1), false}, {0, gives(7, 1), false},
		{0, gives(math.MinInt, 1), false}, {0, takes(math.MaxInt), false},
	} {
		if got := desk.Ready(d, c.thread, c.x); got != c.want {
			t.Errorf("Ready of %+v for thread %d = %v", c.x, c.thread, got)
		}
	}
	// The thread of the first waiting operation is looked past, not only looked at.
	d = play(t, config, waits(2, recv(0)), waits(3, recv(0)))
	if !desk.Ready(d, 2, gives(0, 1)) {
		t.Error("a partner behind an operation of the thread itself is not found")
	}
}

func TestP15_1Choice(t *testing.T) {
	d := play(t, setup(0, 1, 1, 0),
		ends(0, send(2, 9), sent(0, -1)),
		ends(0, shut(3), shutOk(0)),
		waits(4, recv(0)))
	op := choose(gives(0, 1), takes(1), takes(2), gives(-1, 1), gives(1, 2))
	for number := range 120 {
		draws := []int{0, number % 2, number / 2 % 3, number / 6 % 4, number / 24}
		tried := drawn(op, draws...)
		want := -1
		for _, i := range cases.Order(tried) {
			if i == 0 || i == 2 || i == 4 {
				want = i
				break
			}
		}
		if got := desk.Choice(d, 1, tried); got != want {
			t.Errorf("Choice with the draws %v = %d, expected %d", draws, got, want)
		}
	}
	for _, c := range []struct {
		thread int
		op     api.Op
		want   int
	}{
		{1, choose(), -1},
		{1, choose(takes(0), takes(1), gives(2, 1), takes(-1), gives(4, 1)), -1},
		{1, choose(takes(0), gives(0, 5)), 1},
		{4, choose(takes(0), gives(0, 5)), -1},
		{1, choose(takes(0), takes(3), gives(3, 1)), 1},
		{1, choose(takes(0), gives(3, 1), takes(3)), 1},
		{1, choose(takes(2), takes(2)), 0},
		{1, drawn(choose(takes(2), takes(2)), 0, 0), 1},
		{1, try(choose(takes(0), takes(2))), 1},
		{1, until(choose(takes(1), takes(2)), 0), 1},
		{1, send(1, 1), -1},
		{1, recv(2), -1},
		{1, shut(0), -1},
		{1, length(0), -1},
	} {
		if got := desk.Choice(d, c.thread, c.op); got != c.want {
			t.Errorf("Choice of %+v for thread %d = %d, expected %d", c.op, c.thread, got, c.want)
		}
	}
}

func TestP15_2Unbuffered(t *testing.T) {
	d := play(t, setup(0),
		waits(1, send(0, 5)),
		waits(2, send(0, 6)),
		ends(0, recv(0), got(0, -1, 5), sent(1, -1)),
		waits(1, send(0, 7)),
		ends(3, recv(0), sent(2, -1), got(3, -1, 6)),
		ends(2, recv(0), sent(1, -1), got(2, -1, 7)),
		waits(3, recv(0)),
		waits(0, recv(0)),
		ends(1, send(0, 0), sent(1, -1), got(3, -1, 0)),
		ends(3, try(send(0, 1<<64-1)), got(0, -1, 1<<64-1), sent(3, -1)),
		ends(3, try(send(0, 1)), blocked(3)),
		waits(4, recv(0)))
	expectDesk(t, d, 0, []int{4}, open(0))
}

func TestP15_2Buffered(t *testing.T) {
	d := play(t, setup(2),
		ends(0, send(0, 5), sent(0, -1)),
		ends(0, send(0, 6), sent(0, -1)),
		waits(3, send(0, 7)),
		waits(1, send(0, 8)),
		ends(2, recv(0), got(2, -1, 5), sent(3, -1)),
		ends(0, recv(0), got(0, -1, 6), sent(1, -1)))
	expectDesk(t, d, 0, nil, open(2, 7, 8))
	d = play(t, setup(1),
		waits(2, recv(0)),
		waits(1, recv(0)),
		ends(0, send(0, 4), sent(0, -1), got(2, -1, 4)),
		ends(3, try(send(0, 5)), got(1, -1, 5), sent(3, -1)),
		ends(3, send(0, 6), sent(3, -1)))
	expectDesk(t, d, 0, nil, open(1, 6))
	d = play(t, setup(3),
		ends(0, send(0, 1), sent(0, -1)),
		ends(0, send(0, 2), sent(0, -1)),
		ends(1, recv(0), got(1, -1, 1)),
		ends(0, send(0, 3), sent(0, -1)),
		ends(0, until(send(0, 4), 0), sent(0, -1)),
		waits(0, until(send(0, 5), 1)),
		ends(1, try(recv(0)), sent(0, -1), got(1, -1, 2)))
	expectDesk(t, d, 0, nil, open(3, 3, 4, 5))
}

func TestP15_2NilChannels(t *testing.T) {
	for _, channel := range []int{-1, 2, 7} {
		d := play(t, setup(0, 1),
			waits(0, send(channel, 5)),
			waits(1, recv(channel)),
			waits(2, choose(takes(channel), gives(channel, 5))),
			waits(3, choose()),
			ends(4, try(send(channel, 5)), blocked(4)),
			ends(4, try(recv(channel)), blocked(4)),
			ends(4, try(choose(takes(channel), gives(channel, 5))), blocked(4)),
			ends(4, try(choose()), blocked(4)),
			ends(4, until(recv(channel), 0), late(4)),
			ends(4, until(choose(), 0), late(4)),
			ends(4, shut(channel), panicked(4, -1)),
			ends(4, length(channel), counted(4, 0)),
			ends(4, capacity(channel), counted(4, 0)))
		expectDesk(t, d, 0, []int{0, 1, 2, 3}, open(0), open(1))
	}
}

func TestP15_2NothingReady(t *testing.T) {
	for _, op := range []api.Op{send(0, 1), recv(1), choose(), choose(gives(0, 1), takes(1))} {
		d := play(t, setup(0, 2),
			ends(0, try(op), blocked(0)),
			ends(0, until(op, 0), late(0)),
			ticks(7),
			ends(0, until(op, 6), late(0)),
			ends(0, until(op, 7), late(0)),
			waits(0, until(op, 8)),
			waits(1, op))
		expectDesk(t, d, 7, []int{0, 1}, open(0), open(2))
	}
	// What is Ready is done, also without time.
	d := play(t, setup(0, 2),
		ticks(7),
		ends(0, until(send(1, 1), 0), sent(0, -1)),
		ends(0, until(recv(1), 7), got(0, -1, 1)),
		waits(1, recv(0)),
		ends(0, until(choose(takes(1), gives(0, 3)), 7), sent(0, 1), got(1, -1, 3)),
		ends(0, shut(0), shutOk(0)),
		ends(0, until(recv(0), 3), gone(0, -1)),
		ends(0, until(send(0, 1), 3), panicked(0, -1)))
	expectDesk(t, d, 7, nil, closed(0), open(2))
}

func TestP15_2Select(t *testing.T) {
	d := play(t, setup(0, 1, 0),
		waits(2, choose(takes(1), takes(0), gives(2, 8), takes(0))),
		// Its first case in this direction on this channel is the index of a partner.
		ends(1, choose(takes(1), gives(0, 4)), sent(1, 1), got(2, 1, 4)),
		waits(2, choose(takes(-1), gives(2, 8), takes(0), gives(2, 9))),
		ends(3, choose(gives(2, 1), takes(2)), sent(2, 1), got(3, 1, 8)),
		// The same operation can send and receive on one channel.
		waits(5, choose(gives(0, 1), takes(0), gives(0, 2))),
		ends(4, choose(takes(0), gives(0, 3)), got(4, 0, 1), sent(5, 0)),
		waits(5, choose(gives(0, 1), takes(0), gives(0, 2))),
		ends(4, drawn(choose(takes(0), gives(0, 3)), 0, 0), sent(4, 1), got(5, 1, 3)),
		// A case that is done by itself.
		ends(0, choose(takes(0), gives(1, 6), gives(1, 7)), sent(0, 1)),
		ends(0, try(choose(takes(0), gives(1, 6), gives(1, 7))), blocked(0)),
		waits(1, choose(takes(0), gives(1, 6), gives(1, 7))),
		ends(0, choose(takes(2), takes(0), takes(1)), got(0, 2, 6), sent(1, 1)),
		ends(0, drawn(choose(takes(1), takes(1)), 0, 0), got(0, 1, 6)),
		ends(0, shut(2), shutOk(0)),
		ends(0, choose(takes(0), takes(2), gives(2, 1)), gone(0, 1)),
		ends(0, choose(takes(0), gives(2, 1), takes(2)), panicked(0, 1)))
	expectDesk(t, d, 0, nil, open(0), open(1), closed(0))
}

func TestP15_2FirstPartner(t *testing.T) {
	// The partner is the one that has waited longest, whatever its thread and the place of its case.
	d := play(t, setup(0),
		waits(6, choose(takes(-1), takes(-1), takes(0))),
		waits(1, recv(0)),
		waits(3, recv(0)),
		ends(2, send(0, 1), sent(2, -1), got(6, 2, 1)),
		waits(6, recv(0)),
		ends(2, send(0, 2), got(1, -1, 2), sent(2, -1)),
		ends(2, send(0, 3), sent(2, -1), got(3, -1, 3)),
		ends(7, send(0, 4), got(6, -1, 4), sent(7, -1)))
	expectDesk(t, d, 0, nil, open(0))
	// Those in between that wait for other channels are passed over and stay in their order.
	d = play(t, setup(0, 0),
		waits(4, send(1, 1)),
		waits(2, send(0, 2)),
		waits(5, send(1, 3)),
		waits(0, recv(-1)),
		ends(1, recv(0), got(1, -1, 2), sent(2, -1)))
	expectDesk(t, d, 0, []int{4, 5, 0}, open(0), open(0))
}

func TestP15_2Close(t *testing.T) {
	d := play(t, setup(0, 0, 1),
		waits(7, recv(0)),
		waits(2, send(1, 5)),
		waits(5, until(choose(takes(2), takes(0), takes(0)), 9)),
		waits(1, choose(gives(-1, 1), takes(0))),
		ends(3, shut(0), gone(1, 1), shutOk(3), gone(5, 1), gone(7, -1)))
	expectDesk(t, d, 0, []int{2}, closed(0), open(0), open(1))
}

func TestP15_2CloseWithSenders(t *testing.T) {
	d := play(t, setup(1, 0),
		ends(0, send(0, 8), sent(0, -1)),
		waits(6, send(0, 5)),
		waits(2, choose(takes(1), gives(0, 6), gives(0, 7))),
		waits(4, takesForever()),
		ends(3, shut(0), panicked(2, 1), shutOk(3), panicked(6, -1)),
		ends(3, shut(0), panicked(3, -1)),
		ends(2, recv(0), got(2, -1, 8)),
		ends(2, recv(0), gone(2, -1)),
		ends(2, try(recv(0)), gone(2, -1)),
		ends(2, send(0, 1), panicked(2, -1)),
		ends(2, try(send(0, 1)), panicked(2, -1)),
		ends(2, length(0), counted(2, 0)),
		ends(2, capacity(0), counted(2, 1)))
	expectDesk(t, d, 0, []int{4}, closed(1), open(0))
}

// takesForever returns an operation that no other one ends.
func takesForever() api.Op { return recv(api.Nil) }

func TestP15_2CloseOfBothDirections(t *testing.T) {
	// An operation that receives and sends returns as a receiver, wherever its cases stand.
	d := play(t, setup(0, 0),
		waits(4, choose(gives(0, 1), takes(1), takes(0))),
		ends(5, shut(0), gone(4, 2), shutOk(5)))
	expectDesk(t, d, 0, nil, closed(0), open(0))
	d = play(t, setup(0, 0),
		waits(4, choose(takes(0), gives(0, 1), takes(0))),
		ends(1, shut(0), shutOk(1), gone(4, 0)))
	expectDesk(t, d, 0, nil, closed(0), open(0))
	d = play(t, setup(0, 0),
		waits(4, choose(gives(0, 1), takes(1), gives(0, 2))),
		ends(5, shut(0), panicked(4, 0), shutOk(5)))
	expectDesk(t, d, 0, nil, closed(0), open(0))
}

func TestP15_2LenAndCap(t *testing.T) {
	d := play(t, setup(3, 0, 16),
		ends(0, length(0), counted(0, 0)),
		ends(0, capacity(0), counted(0, 3)),
		ends(0, send(0, 9), sent(0, -1)),
		ends(0, send(0, 9), sent(0, -1)),
		ends(5, length(0), counted(5, 2)),
		ends(5, capacity(0), counted(5, 3)),
		ends(5, length(1), counted(5, 0)),
		ends(5, capacity(1), counted(5, 0)),
		ends(5, length(2), counted(5, 0)),
		ends(5, capacity(2), counted(5, 16)),
		// Those that wait to send are not counted.
		waits(1, send(1, 2)),
		ends(5, length(1), counted(5, 0)),
		ends(0, shut(0), shutOk(0)),
		ends(0, length(0), counted(0, 2)))
	expectDesk(t, d, 0, []int{1}, closed(3, 9, 9), open(0), open(16))
}

func TestP15_3Tick(t *testing.T) {
	d := play(t, setup(0, 1),
		waits(5, until(recv(0), 3)),
		waits(1, recv(0)),
		waits(4, until(choose(takes(0), takes(1)), 5)),
		waits(2, until(choose(), 2)),
		waits(0, until(recv(1), 3)),
		waits(6, until(recv(-1), 4)),
		ticks(0),
		ticks(-1),
		ticks(math.MinInt),
		ticks(1),
		ticks(2, late(0), late(2), late(5)),
		ticks(-3))
	expectDesk(t, d, 3, []int{1, 4, 6}, open(0), open(1))
	// Those that timed out have no part in what comes; the others still have.
	d, returns, waiting := desk.Do(d, 0, send(1, 7))
	if waiting || !slices.Equal(returns, []api.Done{sent(0, -1), got(4, 1, 7)}) {
		t.Errorf("a send after a Tick returns %v, %v", returns, waiting)
	}
	d, returns = desk.Tick(d, math.MaxInt)
	if !slices.Equal(returns, []api.Done{late(6)}) {
		t.Errorf("a long Tick returns %v", returns)
	}
	expectDesk(t, d, api.MaxTime, []int{1}, open(0), open(1))
}

func TestP15_3TickNumbers(t *testing.T) {
	for _, c := range []struct{ first, n, want int }{
		{0, 0, 0}, {0, 1, 1}, {0, -1, 0}, {5, 7, 12}, {5, -7, 5}, {5, math.MinInt, 5},
		{0, api.MaxTime - 1, api.MaxTime - 1}, {0, api.MaxTime, api.MaxTime}, {0, api.MaxTime + 1, api.MaxTime}, {0, math.MaxInt, api.MaxTime},
		{1, api.MaxTime - 1, api.MaxTime}, {2, api.MaxTime - 1, api.MaxTime}, {api.MaxTime, 1, api.MaxTime}, {api.MaxTime, math.MaxInt, api.MaxTime},
		{api.MaxTime - 1, 1, api.MaxTime}, {api.MaxTime, -1, api.MaxTime},
	} {
		d := play(t, setup(1), ticks(c.first), ticks(c.n))
		expectDesk(t, d, c.want, nil, open(1))
	}
	// The latest deadline of all comes.
	d := play(t, setup(0),
		waits(0, until(recv(0), api.MaxTime)),
		waits(1, until(recv(0), api.MaxTime-1)),
		ticks(api.MaxTime-2),
		ticks(1, late(1)),
		ticks(api.MaxTime, late(0)),
		ends(0, until(recv(0), api.MaxTime), late(0)))
	expectDesk(t, d, api.MaxTime, nil, open(0))
}

// A board is a desk that is changed in place, as a second reading of the chapter.
type board struct {
	chans   []api.Chan
	waiting []api.Waiter
	tick    int
}

// boardOf returns a board that shares nothing with a desk.
func boardOf(d api.Desk) *board {
	b := &board{waiting: slices.Clone(d.Waiting), tick: d.Tick}
	for _, c := range d.Chans {
		c.Buffer = slices.Clone(c.Buffer)
		b.chans = append(b.chans, c)
	}
	return b
}

// facing returns the index of the first case of an operation in a direction on a channel, -1 for a Send or Recv itself, and its value.
func facing(op api.Op, send bool, channel int) (int, uint64, bool) {
	switch {
	case op.Kind == api.Select:
		for i, x := range op.Cases {
			if x.Channel == channel && x.Send == send {
				return i, x.Value, true
			}
		}
	case op.Kind == api.Send && send && op.Channel == channel:
		return -1, op.Value, true
	case op.Kind == api.Recv && !send && op.Channel == channel:
		return -1, 0, true
	}
	return 0, 0, false
}

// partners returns the places in waiting of the partners of a case.
func (b *board) partners(thread int, x api.Case) []int {
	var places []int
	for place, w := range b.waiting {
		_, _, ok := facing(w.Op, !x.Send, x.Channel)
		if ok && w.Thread != thread && x.Channel >= 0 && x.Channel < len(b.chans) {
			places = append(places, place)
		}
	}
	return places
}

// ready is what P15.1 says of Ready.
func (b *board) ready(thread int, x api.Case) bool {
	return model.Ready(b.chans, x) || len(b.partners(thread, x)) > 0
}

// remove removes the operation at a place from those that wait, and returns it.
func (b *board) remove(place int) api.Waiter {
	w := b.waiting[place]
	b.waiting = slices.Delete(b.waiting, place, place+1)
	return w
}

// perform is what P15.2 says of a case that is Ready.
func (b *board) perform(thread, index int, x api.Case, results map[int]api.Result) {
	c := &b.chans[x.Channel]
	partners := b.partners(thread, x)
	switch {
	case x.Send && c.Closed:
		results[thread] = panicked(0, index).Result
	case x.Send && len(partners) > 0:
		w := b.remove(partners[0])
		other, _, _ := facing(w.Op, false, x.Channel)
		results[thread], results[w.Thread] = sent(0, index).Result, got(0, other, x.Value).Result
	case x.Send:
		c.Buffer = append(c.Buffer, x.Value)
		results[thread] = sent(0, index).Result
	case len(c.Buffer) > 0:
		results[thread] = got(0, index, c.Buffer[0]).Result
		c.Buffer = slices.Delete(c.Buffer, 0, 1)
		if len(partners) > 0 {
			w := b.remove(partners[0])
			other, value, _ := facing(w.Op, true, x.Channel)
			c.Buffer = append(c.Buffer, value)
			results[w.Thread] = sent(0, other).Result
		}
	case len(partners) > 0:
		w := b.remove(partners[0])
		other, value, _ := facing(w.Op, true, x.Channel)
		results[thread], results[w.Thread] = got(0, index, value).Result, sent(0, other).Result
	default:
		results[thread] = gone(0, index).Result
	}
}

// disturb lets all operations return that wait in a direction on a channel which was closed.
func (b *board) disturb(send bool, channel int, results map[int]api.Result) {
	for place := 0; place < len(b.waiting); {
		w := b.waiting[place]
		index, _, ok := facing(w.Op, send, channel)
		if !ok {
			place++
			continue
		}
		b.remove(place)
		results[w.Thread] = gone(0, index).Result
		if send {
			results[w.Thread] = panicked(0, index).Result
		}
	}
}

// do is what P15.2 says of Do.
func (b *board) do(thread int, op api.Op) ([]api.Done, bool) {
	results := map[int]api.Result{}
	exists := op.Channel >= 0 && op.Channel < len(b.chans)
	switch op.Kind {
	case api.Len:
		results[thread] = counted(0, 0).Result
		if exists {
			results[thread] = counted(0, len(b.chans[op.Channel].Buffer)).Result
		}
	case api.Cap:
		results[thread] = counted(0, 0).Result
		if exists {
			results[thread] = counted(0, b.chans[op.Channel].Capacity).Result
		}
	case api.Close:
		if !exists || b.chans[op.Channel].Closed {
			results[thread] = panicked(0, -1).Result
			break
		}
		b.chans[op.Channel].Closed = true
		results[thread] = shutOk(0).Result
		b.disturb(false, op.Channel, results)
		b.disturb(true, op.Channel, results)
	default:
		if !b.attempt(thread, op, results) {
			b.waiting = append(b.waiting, api.Waiter{Thread: thread, Op: op})
			return nil, true
		}
	}
	return inOrder(results), false
}

// attempt is what P15.2 says of a Send, a Recv or a Select, and reports whether it returned.
func (b *board) attempt(thread int, op api.Op, results map[int]api.Result) bool {
	tried := map[int]api.Case{}
	order := []int{-1}
	switch op.Kind {
	case api.Send:
		tried[-1] = gives(op.Channel, op.Value)
	case api.Recv:
		tried[-1] = takes(op.Channel)
	default:
		order = cases.Order(op)
		for i, x := range op.Cases {
			tried[i] = x
		}
	}
	for _, i := range order {
		if b.ready(thread, tried[i]) {
			b.perform(thread, i, tried[i], results)
			return true
		}
	}
	switch {
	case op.Mode == api.Try:
		results[thread] = blocked(0).Result
	case op.Mode == api.Timed && b.tick >= op.Deadline:
		results[thread] = late(0).Result
	}
	return len(results) > 0
}

// pass is what P15.3 says of Tick.
func (b *board) pass(n int) []api.Done {
	for range n {
		b.tick++
	}
	results := map[int]api.Result{}
	for place := len(b.waiting) - 1; place >= 0; place-- {
		if w := b.waiting[place]; w.Op.Mode == api.Timed && b.tick >= w.Op.Deadline {
			b.remove(place)
			results[w.Thread] = late(0).Result
		}
	}
	return inOrder(results)
}

// inOrder returns results as a list that ascends by thread.
func inOrder(results map[int]api.Result) []api.Done {
	var returns []api.Done
	for thread := range 2 * api.MaxThreads {
		if r, ok := results[thread]; ok {
			returns = append(returns, api.Done{Thread: thread, Result: r})
		}
	}
	return returns
}

// expectBoard expects that a desk and a board are the same.
func expectBoard(t *testing.T, d api.Desk, b *board) {
	t.Helper()
	sameWaiter := func(x, y api.Waiter) bool { return reflect.DeepEqual(x, y) }
	if !model.Same(d.Chans, b.chans) || !slices.EqualFunc(d.Waiting, b.waiting, sameWaiter) || d.Tick != b.tick {
		t.Fatalf("the desk is %+v, expected %+v", d, *b)
	}
}

// isPossible reports whether results can be ordered so that the model accepts them, and leads from channels to others.
func isPossible(from, to []api.Chan, ops map[int]api.Op, returns []api.Done) bool {
	if len(returns) == 0 {
		return model.Same(from, to)
	}
	for i, a := range returns {
		rest := slices.Delete(slices.Clone(returns), i, i+1)
		if after, ok := model.Apply(from, ops[a.Thread], a.Result); ok && isPossible(after, to, ops, rest) {
			return true
		}
		for j, b := range rest {
			if model.Pair(from, ops[a.Thread], a.Result, ops[b.Thread], b.Result) && isPossible(from, to, ops, slices.Delete(slices.Clone(rest), j, j+1)) {
				return true
			}
		}
	}
	return false
}

// expectSound expects of a desk, and of the returns that led to it from another one, what P15.4 says.
func expectSound(t *testing.T, before, after api.Desk, ops map[int]api.Op, returns []api.Done) {
	t.Helper()
	for _, w := range before.Waiting {
		ops[w.Thread] = w.Op
	}
	if !isPossible(before.Chans, after.Chans, ops, returns) {
		t.Fatalf("the model does not allow that %+v leads from %+v to %+v", returns, before, after)
	}
	if model.Enabled(after.Chans, after.Waiting) {
		t.Fatalf("an operation that waits is enabled: %+v", after)
	}
	for _, c := range after.Chans {
		if len(c.Buffer) > c.Capacity {
			t.Fatalf("a channel has too many values: %+v", after)
		}
	}
	for i, a := range after.Waiting {
		for _, b := range after.Waiting[:i] {
			if a.Thread == b.Thread {
				t.Fatalf("thread %d waits twice: %+v", a.Thread, after)
			}
		}
	}
	ascends := slices.IsSortedFunc(returns, func(a, b api.Done) int { return a.Thread - b.Thread })
	if !ascends || len(before.Waiting)+len(ops) < len(returns) {
		t.Fatalf("the returns are %+v", returns)
	}
}

// waitsAt reports whether a thread waits at a desk.
func waitsAt(d api.Desk, thread int) bool {
	return slices.ContainsFunc(d.Waiting, func(w api.Waiter) bool { return w.Thread == thread })
}

// tried makes a Do, compares it with the board, and returns the desk afterwards.
func tried(t *testing.T, d api.Desk, thread int, op api.Op) api.Desk {
	t.Helper()
	b := boardOf(d)
	for i, x := range op.Cases {
		if got := desk.Ready(d, thread, x); got != b.ready(thread, x) {
			t.Fatalf("Ready of case %d of %+v on %+v = %v", i, op, d, got)
		}
	}
	want, waiting := b.do(thread, op)
	after, returns, now := desk.Do(d, thread, op)
	if !slices.Equal(returns, want) || now != waiting {
		t.Fatalf("Do of %+v of thread %d on %+v returns %+v, %v, expected %+v, %v", op, thread, d, returns, now, want, waiting)
	}
	expectBoard(t, after, b)
	expectSound(t, d, after, map[int]api.Op{thread: op}, returns)
	return after
}

// passed makes a Tick, compares it with the board, and returns the desk afterwards.
func passed(t *testing.T, d api.Desk, n int) api.Desk {
	t.Helper()
	b := boardOf(d)
	want := b.pass(n)
	after, returns := desk.Tick(d, n)
	if !slices.Equal(returns, want) {
		t.Fatalf("Tick of %d on %+v returns %+v, expected %+v", n, d, returns, want)
	}
	expectBoard(t, after, b)
	expectSound(t, d, after, map[int]api.Op{}, returns)
	return after
}

// fewOps returns operations with which three threads come to all sorts of desks with two channels.
func fewOps() []api.Op {
	return []api.Op{
		send(0, 1), recv(0), send(1, 2), recv(1), until(recv(0), 1), until(send(1, 3), 1), try(send(0, 4)), try(recv(1)), shut(0), shut(1), length(1), recv(-1),
		choose(takes(0), gives(0, 5)), drawn(choose(takes(0), gives(0, 5)), 0, 0), choose(gives(0, 6), takes(1)), choose(takes(0), gives(1, 7), takes(1)),
		drawn(choose(takes(1), takes(0), takes(1)), 0, 1, 0), try(choose(takes(0), gives(1, 8))),
	}
}

func TestP15_4AllDesks(t *testing.T) {
	for _, config := range []api.Config{setup(0, 1), setup(1, 0), setup(0, 0), setup(2)} {
		first := desk.New(config)
		seen := map[string]bool{fmt.Sprint(first): true}
		next := []api.Desk{first}
		add := func(d api.Desk) {
			if key := fmt.Sprint(d); !seen[key] {
				seen[key] = true
				next = append(next, d)
			}
		}
		for len(next) > 0 {
			d := next[0]
			next = next[1:]
			for thread := range 3 {
				if waitsAt(d, thread) {
					continue
				}
				for _, op := range fewOps() {
					add(tried(t, d, thread, op))
				}
			}
			if d.Tick < 1 {
				add(passed(t, d, 1))
			}
		}
		if len(seen) < 1000 {
			t.Errorf("only %d desks with the capacities %v", len(seen), config.Capacities)
		}
	}
}

// anyOp returns a random valid operation on channels of which some may not exist.
func anyOp(source *rand.Rand, channels, tick int) api.Op {
	channel := func() int { return source.Intn(channels+2) - 1 }
	var op api.Op
	switch source.Intn(12) {
	case 0:
		return length(channel())
	case 1:
		return capacity(channel())
	case 2:
		if source.Intn(6) == 0 {
			return shut(channel())
		}
		return recv(channel())
	case 3, 4, 5:
		op = send(channel(), source.Uint64())
	case 6, 7:
		op = recv(channel())
	default:
		op.Kind = api.Select
		for i := range source.Intn(api.MaxCases + 1) {
			x := takes(channel())
			if source.Intn(2) == 0 {
				x = gives(x.Channel, source.Uint64())
			}
			op.Cases = append(op.Cases, x)
			op.Draws = append(op.Draws, source.Intn(i+1))
		}
	}
	switch source.Intn(5) {
	case 0:
		return try(op)
	case 1:
		return until(op, max(0, tick-2+source.Intn(8)))
	}
	return op
}

func TestP15_4RandomRuns(t *testing.T) {
	source := rand.New(rand.NewSource(154))
	kinds := map[int]int{}
	for range 1500 {
		capacities := make([]int, 1+source.Intn(4))
		for i := range capacities {
			capacities[i] = max(0, source.Intn(5)-2)
		}
		d := desk.New(setup(capacities...))
		for range 60 {
			thread := source.Intn(api.MaxThreads)
			if waitsAt(d, thread) || source.Intn(8) == 0 {
				d = passed(t, d, source.Intn(3))
				continue
			}
			op := anyOp(source, len(capacities), d.Tick)
			if cases.Check(op) != api.OK {
				t.Fatalf("%+v is not valid", op)
			}
			_, returns, _ := desk.Do(d, thread, op)
			for _, r := range returns {
				kinds[r.Result.Kind]++
			}
			d = tried(t, d, thread, op)
		}
	}
	for kind := api.Sent; kind <= api.Counted; kind++ {
		if kind != api.TimedOut && kinds[kind] < 100 {
			t.Errorf("the kinds of the results are too much alike: %v", kinds)
		}
	}
}

// strangeOps returns operations that are not valid, and some that are.
func strangeOps() []api.Op {
	far := []int{math.MinInt, -2, -1, 0, 1, 3, 8, math.MaxInt}
	ops := []api.Op{{}, {Kind: api.Select, Cases: make([]api.Case, 30), Draws: far}, {Kind: api.Select, Cases: make([]api.Case, 3)}}
	for kind := -1; kind <= 8; kind++ {
		for mode := -1; mode <= 3; mode++ {
			for _, channel := range far {
				l := []api.Case{gives(channel, 1), takes(channel), takes(0), takes(1), gives(0, 1), gives(1, 1), {Channel: 2, Value: 7}}
				ops = append(ops, api.Op{Kind: kind, Mode: mode, Channel: channel, Value: 1, Deadline: channel, Cases: l, Draws: far[:len(l)]},
					api.Op{Kind: kind, Mode: mode, Channel: channel, Deadline: channel})
			}
		}
	}
	return ops
}

func TestTotality(t *testing.T) {
	for _, config := range []api.Config{{}, {Threads: -1}, {Capacities: []int{-5, 17}}, {Capacities: make([]int, 9), Starts: []uint64{1 << 63}, Threads: 9}} {
		desk.New(config)
	}
	var waiting []api.Waiter
	for i, op := range strangeOps() {
		waiting = append(waiting, api.Waiter{Thread: i%5 - 2, Op: op})
	}
	strange := [][]api.Chan{
		nil,
		{open(0), closed(0), open(-3), closed(-3), open(1, 1, 2), closed(0, 1)},
		{open(math.MaxInt, 4), open(math.MinInt), closed(1), open(2, 1)},
	}
	for _, l := range strange {
		for _, w := range [][]api.Waiter{nil, waiting, waiting[:7]} {
			for _, tick := range []int{math.MinInt, -1, 0, math.MaxInt} {
				d := api.Desk{Chans: l, Waiting: w, Tick: tick}
				for _, op := range strangeOps() {
					for _, thread := range []int{math.MinInt, -2, 0, 9, math.MaxInt} {
						for _, x := range op.Cases {
							desk.Ready(d, thread, x)
						}
						desk.Choice(d, thread, op)
						desk.Do(d, thread, op)
					}
				}
				for _, n := range []int{math.MinInt, 0, 1, math.MaxInt} {
					desk.Tick(d, n)
				}
			}
		}
	}
}

// spacious returns a desk whose lists have spare capacity, in which something lies.
func spacious() api.Desk {
	chans := []api.Chan{open(3, 1, 2, 70, 71), open(2, 3, 4, 72, 73), open(0), open(1, 74, 75), closed(2, 5, 76), open(9, 77)}
	for i, size := range []int{2, 2, 0, 0, 1} {
		chans[i].Buffer = chans[i].Buffer[:size]
	}
	waiting := []api.Waiter{
		{Thread: 6, Op: send(1, 40)},
		{Thread: 1, Op: until(choose(takes(3), takes(2), gives(1, 41)), 5)},
		{Thread: 4, Op: recv(2)},
		{Thread: 3, Op: until(choose(), 3)},
		{Thread: 99, Op: recv(99)},
		{Thread: 98, Op: recv(98)},
	}
	return api.Desk{Chans: chans[:5], Waiting: waiting[:4], Tick: 2}
}

// whole returns a copy of a desk with all elements of its lists, also those of the spare capacity.
func whole(d api.Desk) api.Desk {
	d.Chans = slices.Clone(d.Chans[:cap(d.Chans)])
	for i, c := range d.Chans {
		d.Chans[i].Buffer = slices.Clone(c.Buffer[:cap(c.Buffer)])
	}
	d.Waiting = slices.Clone(d.Waiting[:cap(d.Waiting)])
	for i, w := range d.Waiting {
		d.Waiting[i].Op.Cases = slices.Clone(w.Op.Cases[:cap(w.Op.Cases)])
		d.Waiting[i].Op.Draws = slices.Clone(w.Op.Draws[:cap(w.Op.Draws)])
	}
	return d
}

func TestArgumentsAreNotModified(t *testing.T) {
	source := rand.New(rand.NewSource(152))
	first := spacious()
	before := whole(first)
	if model.Enabled(first.Chans, first.Waiting) {
		t.Fatal("the desk of this test cannot come about")
	}
	for range 2000 {
		d := first
		// Later desks share memory with earlier ones, none of which may change.
		var earlier, copies []api.Desk
		for range 15 {
			if thread := source.Intn(api.MaxThreads); waitsAt(d, thread) {
				d, _ = desk.Tick(d, source.Intn(3))
			} else {
				op := anyOp(source, 5, d.Tick)
				given := api.Desk{Waiting: []api.Waiter{{Op: op}}}
				other := whole(given)
				desk.Choice(d, thread, op)
				d, _, _ = desk.Do(d, thread, op)
				if !reflect.DeepEqual(whole(given), other) {
					t.Fatalf("the operation %+v became %+v", other, op)
				}
			}
			earlier, copies = append(earlier, d), append(copies, whole(d))
		}
		for i := range earlier {
			if !reflect.DeepEqual(whole(earlier[i]), copies[i]) {
				t.Fatalf("the desk %+v became %+v", copies[i], earlier[i])
			}
		}
		if !reflect.DeepEqual(whole(first), before) {
			t.Fatalf("the first desk became %+v", whole(first))
		}
	}
}

func TestResultsDependOnArgumentsOnly(t *testing.T) {
	source := rand.New(rand.NewSource(153))
	for range 5000 {
		op := anyOp(source, 5, 2)
		a, x, waits := desk.Do(spacious(), 0, op)
		b, y, again := desk.Do(spacious(), 0, op)
		if !slices.Equal(x, y) || waits != again {
			t.Fatalf("Do of %+v returns %+v, %v and then %+v, %v", op, x, waits, y, again)
		}
		expectBoard(t, a, boardOf(b))
	}
}

func Example() {
	d := desk.New(api.Config{Capacities: []int{0}, Starts: []uint64{0}, Threads: 2})
	fmt.Println(desk.Ready(d, 0, api.Case{Send: true, Channel: 0}))
	d, returns, waits := desk.Do(d, 0, api.Op{Kind: api.Send, Channel: 0, Value: 7})
	fmt.Println(returns, waits)
	fmt.Println(desk.Ready(d, 1, api.Case{Channel: 0}))
	d, returns, waits = desk.Do(d, 1, api.Op{Kind: api.Recv, Channel: 0})
	fmt.Println(returns, waits)
	d, _, waits = desk.Do(d, 1, api.Op{Kind: api.Recv, Mode: api.Timed, Channel: 0, Deadline: 3})
	fmt.Println(waits)
	d, returns = desk.Tick(d, 3)
	fmt.Println(returns, d.Tick)
	// Output:
	// false
	// [] true
	// true
	// [{0 {1 -1 0 false 0}} {1 {2 -1 7 true 0}}] false
	// true
	// [{1 {4 -1 0 false 0}}] 3
}
