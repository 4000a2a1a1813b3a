package linear_test

import (
	"fmt"
	"math"
	"slices"
	"testing"

	"chanfabric/api"
	"chanfabric/history"
	"chanfabric/linear"
	"chanfabric/model"
)

// setup returns a valid configuration with these capacities.
func setup(capacities ...int) api.Config {
	return api.Config{Capacities: capacities, Starts: make([]uint64, len(capacities)), Threads: api.MaxThreads}
}

// open and closed return channels.
func open(capacity int, values ...uint64) api.Chan {
	return api.Chan{Capacity: capacity, Buffer: values}
}

func closed(capacity int, values ...uint64) api.Chan {
	return api.Chan{Capacity: capacity, Buffer: values, Closed: true}
}

// send, recv, shut, length and capacity return operations on one channel; choose one on several.
func send(channel int, value uint64) api.Op {
	return api.Op{Kind: api.Send, Channel: channel, Value: value}
}

func recv(channel int) api.Op { return api.Op{Kind: api.Recv, Channel: channel} }

func shut(channel int) api.Op { return api.Op{Kind: api.Close, Channel: channel} }

func length(channel int) api.Op { return api.Op{Kind: api.Len, Channel: channel} }

func capacity(channel int) api.Op { return api.Op{Kind: api.Cap, Channel: channel} }

func choose(l ...api.Case) api.Op {
	return api.Op{Kind: api.Select, Cases: l, Draws: make([]int, len(l))}
}

// try and timed give an operation another mode.
func try(op api.Op) api.Op {
	op.Mode = api.Try
	return op
}

func timed(op api.Op) api.Op {
	op.Mode, op.Deadline = api.Timed, 9
	return op
}

// gives and takes return cases of a select.
func gives(channel int, value uint64) api.Case {
	return api.Case{Send: true, Channel: channel, Value: value}
}

func takes(channel int) api.Case { return api.Case{Channel: channel} }

// The results of selects, with the index of the case.
func sentBy(index int) api.Result { return api.Result{Kind: api.Sent, Case: index} }

func gotBy(index int, value uint64) api.Result {
	return api.Result{Kind: api.Received, Case: index, Value: value, Ok: true}
}

func goneBy(index int) api.Result { return api.Result{Kind: api.Received, Case: index} }

func panickedBy(index int) api.Result { return api.Result{Kind: api.Panicked, Case: index} }

// The results of other operations.
var (
	sent     = sentBy(-1)
	gone     = goneBy(-1)
	panicked = panickedBy(-1)
	blocked  = api.Result{Kind: api.WouldBlock, Case: -1}
	late     = api.Result{Kind: api.TimedOut, Case: -1}
	shutOk   = api.Result{Kind: api.Closed, Case: -1}
)

func got(value uint64) api.Result { return gotBy(-1, value) }

func counted(number int) api.Result {
	return api.Result{Kind: api.Counted, Case: -1, Number: number}
}

// programs writes down the operations of threads, and program those of one thread.
func programs(l ...[]api.Op) [][]api.Op { return l }

func program(l ...api.Op) []api.Op { return l }

// elements writes down a list of elements, and by one of them.
func elements(l ...api.Done) []api.Done { return l }

func by(thread int, r api.Result) api.Done { return api.Done{Thread: thread, Result: r} }

// call and ends are the call and the return of the next operation of a thread, which events gives its number.
func call(thread int) api.Event { return api.Event{Thread: thread} }

func ends(thread int, r api.Result) api.Event {
	return api.Event{Thread: thread, Return: true, Result: r}
}

func events(l ...api.Event) []api.Event {
	seen := map[int]int{}
	for i, e := range l {
		l[i].Op = seen[e.Thread] / 2
		seen[e.Thread]++
	}
	return l
}

// whole is an operation during which nothing else happens.
func whole(l []api.Event, thread int, r api.Result) []api.Event {
	return append(l, call(thread), ends(thread, r))
}

// sequence returns the history in which operations are done one after another.
func sequence(l ...api.Done) []api.Event {
	var history []api.Event
	for _, e := range l {
		history = whole(history, e.Thread, e.Result)
	}
	return events(history...)
}

// together returns the history in which all threads call their first operations before one of them returns, in the order of the list.
func together(l ...api.Done) []api.Event {
	var history []api.Event
	for _, e := range l {
		history = append(history, call(e.Thread))
	}
	for _, e := range l {
		history = append(history, ends(e.Thread, e.Result))
	}
	return events(history...)
}

func TestP17_1Step(t *testing.T) {
	l := []api.Chan{open(2, 5), open(1, 6), open(0), closed(2), closed(1, 9)}
	with := func(channel int, c api.Chan) []api.Chan {
		after := slices.Clone(l)
		after[channel] = c
		return after
	}
	either := choose(takes(2), gives(2, 8), takes(0))
	for i, c := range []struct {
		ops   [][]api.Op
		order []api.Done
		want  []api.Chan
	}{
		{nil, nil, l},
		{programs(program(recv(0))), nil, l},
		// By itself.
		{programs(program(send(0, 7))), elements(by(0, sent)), with(0, open(2, 5, 7))},
		{programs(program(recv(1))), elements(by(0, got(6))), with(1, open(1))},
		{programs(program(recv(3))), elements(by(0, gone)), l},
		{programs(program(send(4, 1))), elements(by(0, panicked)), l},
		{programs(program(shut(0))), elements(by(0, shutOk)), with(0, closed(2, 5))},
		{programs(program(shut(-1))), elements(by(0, panicked)), l},
		{programs(program(try(send(2, 1)))), elements(by(0, blocked)), l},
		{programs(program(timed(recv(0)))), elements(by(0, late)), l},
		{programs(program(length(0))), elements(by(0, counted(1))), l},
		{programs(program(capacity(0))), elements(by(0, counted(2))), l},
		{programs(program(either)), elements(by(0, gotBy(2, 5))), with(0, open(2))},
		// One after another, by one thread or several.
		{programs(program(recv(0), send(0, 7), recv(0))), elements(by(0, got(5)), by(0, sent), by(0, got(7))), with(0, open(2))},
		{programs(program(send(0, 7), recv(0)), program(recv(0))), elements(by(0, sent), by(1, got(5)), by(0, got(7))), with(0, open(2))},
		{programs(nil, program(recv(1)), program(send(1, 3))), elements(by(1, got(6)), by(2, sent)), with(1, open(1, 3))},
		{programs(program(recv(4), recv(4), shut(4))), elements(by(0, got(9)), by(0, gone), by(0, panicked)), with(4, closed(1))},
		// Together with the element behind it, in both orders.
		{programs(program(send(2, 7)), program(recv(2))), elements(by(0, sent), by(1, got(7))), l},
		{programs(program(send(2, 7)), program(recv(2))), elements(by(1, got(7)), by(0, sent)), l},
		{programs(program(either), program(recv(2))), elements(by(0, sentBy(1)), by(1, got(8))), l},
		{programs(program(either), program(send(2, 3))), elements(by(1, sent), by(0, gotBy(0, 3))), l},
		{programs(program(either), program(either)), elements(by(1, sentBy(1)), by(0, gotBy(0, 8))), l},
		// Step knows no history: so a thread can even meet itself.
		{programs(program(send(2, 7), recv(2))), elements(by(0, sent), by(0, got(7))), l},
		// The element behind it is passed over.
		{programs(program(send(2, 7), shut(2)), program(recv(2), recv(2))), elements(by(0, sent), by(1, got(7)), by(0, shutOk), by(1, gone)), with(2, closed(0))},
		{programs(program(send(2, 7)), program(recv(2)), program(recv(0))), elements(by(2, got(5)), by(1, got(7)), by(0, sent)), with(0, open(2))},
		{programs(program(send(2, 7), recv(2)), program(recv(2), send(2, 4))), elements(by(0, sent), by(1, got(7)), by(0, got(4)), by(1, sent)), l},
		// A thread has more operations than elements.
		{programs(program(send(0, 7), shut(0), shut(0)), program(shut(1))), elements(by(0, sent)), with(0, open(2, 5, 7))},
	} {
		after, ok := linear.Step(l, c.ops, c.order)
		if !ok || !model.Same(after, c.want) {
			t.Errorf("case %d: Step = %v, %v, expected %v", i, after, ok, c.want)
		}
	}
}

func TestP17_1StepHasNoWay(t *testing.T) {
	l := []api.Chan{open(2, 5), open(1, 6), open(0), closed(0)}
	for i, c := range []struct {
		ops   [][]api.Op
		order []api.Done
	}{
		// No thread, or no operation.
		{nil, elements(by(0, sent))},
		{programs(program(send(0, 1))), elements(by(1, sent))},
		{programs(program(send(0, 1))), elements(by(-1, sent))},
		{programs(program(send(0, 1))), elements(by(math.MinInt, sent))},
		{programs(program(send(0, 1))), elements(by(math.MaxInt, sent))},
		{programs(nil), elements(by(0, sent))},
		{programs(program(send(0, 1))), elements(by(0, sent), by(0, sent))},
		{programs(program(length(0)), program(length(0))), elements(by(0, counted(1)), by(1, counted(1)), by(0, counted(1)))},
		{programs(program(length(0)), program(length(0))), elements(by(0, counted(1)), by(2, counted(1)))},
		// Results that are not possible, at the beginning and later.
		{programs(program(recv(0))), elements(by(0, got(6)))},
		{programs(program(send(1, 3))), elements(by(0, sent))},
		{programs(program(recv(0), recv(0))), elements(by(0, got(5)), by(0, got(5)))},
		{programs(program(send(0, 7), send(0, 8))), elements(by(0, sent), by(0, sent))},
		{programs(program(recv(1), length(1))), elements(by(0, got(6)), by(0, counted(1)))},
		{programs(program(length(0))), elements(by(0, api.Result{}))},
		// The operations of a thread come in their order.
		{programs(program(send(0, 7), length(0))), elements(by(0, counted(1)), by(0, sent))},
		// Nobody to meet, or not at the place behind.
		{programs(program(send(2, 7)), program(recv(2))), elements(by(0, sent))},
		{programs(program(send(2, 7)), program(recv(2))), elements(by(1, got(7)))},
		{programs(program(send(2, 7)), program(recv(2))), elements(by(0, sent), by(1, got(8)))},
		{programs(program(send(2, 7)), program(recv(2)), program(length(0))), elements(by(0, sent), by(2, counted(1)), by(1, got(7)))},
		{programs(program(send(2, 7)), program(recv(2)), program(recv(2))), elements(by(0, sent), by(1, got(7)), by(2, got(7)))},
		{programs(program(send(2, 7)), program(recv(2)), program(send(2, 7))), elements(by(0, sent), by(1, got(7)), by(2, sent))},
		{programs(program(send(3, 7)), program(recv(3))), elements(by(0, sent), by(1, got(7)))},
		// With a buffer the receive comes behind the send.
		{programs(program(send(1, 7)), program(recv(1), recv(1))), elements(by(1, got(6)), by(1, got(7)), by(0, sent))},
	} {
		if after, ok := linear.Step(l, c.ops, c.order); ok || after != nil {
			t.Errorf("case %d: Step = %v, %v, expected no way", i, after, ok)
		}
	}
}

// A story is a history of operations on channels.
type story struct {
	name   string
	config api.Config
	ops    [][]api.Op
	l      []api.Event
}

// possible returns stories that have a linearization.
func possible() []story {
	deal := programs(program(send(0, 5)), program(recv(0)))
	return []story{
		{"nothing", setup(), nil, nil},
		{"no operations", setup(0), programs(nil, nil), nil},
		{"only a call", setup(0), deal, events(call(0))},
		{"a send and a receive", setup(1), deal, sequence(by(0, sent), by(1, got(5)))},
		{"a receive that is called first", setup(1), deal, events(call(1), call(0), ends(0, sent), ends(1, got(5)))},
		{"a receive that returns first", setup(1), deal, events(call(0), call(1), ends(1, got(5)), ends(0, sent))},
		{"a send that has not returned", setup(1), deal, events(call(0), call(1), ends(1, got(5)))},
		{"a receive that has not returned", setup(1), programs(program(send(0, 5), send(0, 6)), program(recv(0))), events(call(1), call(0), ends(0, sent), call(0), ends(0, sent))},
		{"a rendezvous", setup(0), deal, together(by(0, sent), by(1, got(5)))},
		{"a rendezvous in the other order", setup(0), deal, together(by(1, got(5)), by(0, sent))},
		{"a rendezvous with a send that has not returned", setup(0), deal, events(call(0), call(1), ends(1, got(5)))},
		{"a rendezvous with a receive that has not returned", setup(0), deal, events(call(1), call(0), ends(0, sent))},
		{"two that wait", setup(0), deal, events(call(1), call(0))},
		{"a rendezvous with the second case", setup(0, 0), programs(program(choose(takes(1), gives(0, 4), gives(0, 5))), program(recv(0))), together(by(0, sentBy(2)), by(1, got(5)))},
		{"a select that has not returned sends", setup(0, 0), programs(program(choose(takes(1), gives(0, 4), gives(0, 5))), program(recv(0))), events(call(0), call(1), ends(1, got(5)))},
		{"a select that has not returned receives", setup(0, 0), programs(program(choose(gives(0, 4), gives(1, 4), takes(1))), program(send(1, 3))), events(call(0), call(1), ends(1, sent))},
		{"a select that has not returned fills a buffer", setup(1, 1), programs(program(choose(takes(1), gives(0, 4), gives(1, 6))), program(recv(1))), events(call(0), call(1), ends(1, got(6)))},
		{"a select that has not returned empties a buffer", setup(1, 1), programs(program(choose(takes(0), takes(1))), program(send(1, 3), send(1, 4))), events(call(0), call(1), ends(1, sent), call(1), ends(1, sent))},
		{"two selects", setup(0), programs(program(choose(gives(0, 4), takes(0))), program(choose(gives(0, 6), takes(0)))), together(by(0, gotBy(1, 6)), by(1, sentBy(0)))},
		{"sends at the same time are received in any order", setup(2), programs(program(send(0, 5)), program(send(0, 6)), program(recv(0), recv(0))),
			events(call(0), call(1), ends(0, sent), ends(1, sent), call(2), ends(2, got(6)), call(2), ends(2, got(5)))},
		{"receives at the same time", setup(2), programs(program(send(0, 5), send(0, 6)), program(recv(0)), program(recv(0))),
			events(call(0), ends(0, sent), call(0), ends(0, sent), call(1), call(2), ends(1, got(6)), ends(2, got(5)))},
		{"a full channel has room again", setup(1), programs(program(send(0, 5)), program(send(0, 6)), program(recv(0))),
			events(call(0), ends(0, sent), call(1), call(2), ends(1, sent), ends(2, got(5)))},
		{"what a Close leaves", setup(2), programs(program(send(0, 5), shut(0)), program(recv(0), recv(0))),
			sequence(by(0, sent), by(0, shutOk), by(1, got(5)), by(1, gone))},
		{"a Close that has not returned", setup(2), programs(program(shut(0)), program(recv(0)), program(send(0, 5))), events(call(0), call(1), ends(1, gone), call(2), ends(2, panicked))},
		{"a Close between two receives", setup(0), programs(program(shut(0)), deal[1], deal[0]), events(call(0), call(1), call(2), ends(1, got(5)), ends(2, sent), ends(0, shutOk))},
		{"a Close that comes second", setup(0), programs(program(shut(0)), program(shut(0))), together(by(1, shutOk), by(0, panicked))},
		{"a Close of a nil channel", setup(0), programs(program(shut(-1))), sequence(by(0, panicked))},
		{"a send that panics by a Close at the same time", setup(1), programs(program(send(0, 5)), program(shut(0))), together(by(0, panicked), by(1, shutOk))},
		{"a send in front of a Close at the same time", setup(1), programs(program(send(0, 5)), program(shut(0))), together(by(0, sent), by(1, shutOk))},
		{"a try that finds nothing", setup(0, 1), programs(program(try(send(0, 1)), try(recv(1)), try(choose(takes(0), takes(1))))), sequence(by(0, blocked), by(0, blocked), by(0, blocked))},
		{"a try that meets somebody", setup(0), programs(program(try(send(0, 5))), program(try(recv(0)))), together(by(0, sent), by(1, got(5)))},
		{"a try that finds a channel full at one moment", setup(1), programs(program(try(send(0, 5))), program(send(0, 6), recv(0))), events(call(0), call(1), ends(1, sent), call(1), ends(1, got(6)), ends(0, blocked))},
		{"a time that has come", setup(1), programs(program(send(0, 5)), program(timed(recv(0)))), sequence(by(0, sent), by(1, late))},
		{"a Len at a moment", setup(3), programs(program(send(0, 5), send(0, 6), recv(0)), program(length(0))), events(call(1), call(0), ends(0, sent), call(0), ends(0, sent), call(0), ends(0, got(5)), ends(1, counted(2)))},
		{"a Len that sees a send that has not returned", setup(3), programs(program(send(0, 5)), program(length(0))), events(call(0), call(1), ends(1, counted(1)))},
		{"a Len that sees none", setup(3), programs(program(send(0, 5)), program(length(0))), events(call(0), call(1), ends(1, counted(0)))},
		{"a Len that sees a select that has not returned", setup(1, 1), programs(program(choose(gives(0, 1), gives(1, 2))), program(length(1))), events(call(0), call(1), ends(1, counted(1)))},
		{"values that two open receives take", setup(3), programs(program(send(0, 5), send(0, 6), send(0, 7)), program(recv(0)), program(recv(0)), program(recv(0))),
			append(sequence(by(0, sent), by(0, sent), by(0, sent)), call(1), call(2), call(3), ends(3, got(7)))},
		{"a receive that is called first and comes last", setup(3), programs(program(send(0, 5), send(0, 6), send(0, 5)), program(recv(0)), program(recv(0), recv(0))),
			append(sequence(by(0, sent), by(0, sent), by(0, sent)), events(call(1), call(2), ends(2, got(5)), call(2), ends(2, got(6)), ends(1, got(5)))...)},
		{"a Cap", setup(3), programs(program(capacity(0), capacity(-1), length(7))), sequence(by(0, counted(3)), by(0, counted(0)), by(0, counted(0)))},
		{"the operations of calls that have not come are not asked", setup(0), programs(program(recv(0), shut(0)), program(send(0, 5))), together(by(0, got(5)), by(1, sent))},
		{"a full house", setup(16), programs(slices.Repeat([][]api.Op{program(send(0, 7), recv(0))}, 8)...), slices.Concat(together(eight(sent)...), second(eight(got(7))))},
	}
}

// eight returns an element with this result for each of eight threads.
func eight(r api.Result) []api.Done {
	var l []api.Done
	for thread := range 8 {
		l = append(l, by(thread, r))
	}
	return l
}

// second returns together for the second operations of threads.
func second(l []api.Done) []api.Event {
	later := together(l...)
	for i := range later {
		later[i].Op = 1
	}
	return later
}

// impossible returns stories that have none.
func impossible() []story {
	deal := programs(program(send(0, 5)), program(recv(0)))
	return []story{
		{"a value before its send was called", setup(1), deal, sequence(by(1, got(5)), by(0, sent))},
		{"a value whose send was not called", setup(1), deal, sequence(by(1, got(5)))},
		{"a value whose send was not called, without a buffer", setup(0), deal, sequence(by(1, got(5)))},
		{"another value", setup(1), deal, together(by(0, sent), by(1, got(6)))},
		{"another value, without a buffer", setup(0), deal, together(by(0, sent), by(1, got(6)))},
		{"a value that comes twice", setup(1), programs(program(send(0, 5)), program(recv(0), recv(0))), sequence(by(0, sent), by(1, got(5)), by(1, got(5)))},
		{"the results of each other", setup(1), deal, together(by(0, got(5)), by(1, sent))},
		{"no result", setup(1), deal, sequence(by(0, api.Result{}))},
		{"a result with a case", setup(1), deal, sequence(by(0, sentBy(0)))},
		{"a rendezvous of calls that precede each other", setup(0), deal, sequence(by(0, sent), by(1, got(5)))},
		{"a rendezvous of calls that precede each other, the receive first", setup(0), deal, sequence(by(1, got(5)), by(0, sent))},
		{"a rendezvous of a thread with itself", setup(0), programs(program(send(0, 5), recv(0))), sequence(by(0, sent), by(0, got(5)))},
		{"a rendezvous with nobody", setup(0), deal, events(call(0), ends(0, sent))},
		{"a rendezvous with nobody, but two that wait elsewhere", setup(0, 0), programs(program(send(0, 5)), program(recv(1)), program(choose(takes(1), gives(0, 5)))), events(call(0), call(1), call(2), ends(0, sent))},
		{"one send for two receives", setup(0), programs(program(send(0, 5)), program(recv(0)), program(recv(0))), together(by(0, sent), by(1, got(5)), by(2, got(5)))},
		{"one receive for two sends", setup(0), programs(program(send(0, 5)), program(recv(0)), program(send(0, 5))), together(by(0, sent), by(1, got(5)), by(2, sent))},
		{"an open send for two receives", setup(0), programs(program(send(0, 5)), program(recv(0)), program(recv(0))), events(call(0), call(1), call(2), ends(1, got(5)), ends(2, got(5)))},
		{"an open send for two receives, with a buffer", setup(1), programs(program(send(0, 5)), program(recv(0)), program(recv(0))), events(call(0), call(1), call(2), ends(1, got(5)), ends(2, got(5)))},
		{"an open select that has no such case", setup(0, 0), programs(program(choose(takes(1), gives(1, 5), gives(0, 4))), program(recv(0))), events(call(0), call(1), ends(1, got(5)))},
		{"a send that was called too late", setup(1), programs(program(send(0, 5)), program(recv(0))), events(call(1), ends(1, got(5)), call(0))},
		{"sends in order are received out of order", setup(2), programs(program(send(0, 5)), program(send(0, 6)), program(recv(0), recv(0))),
			sequence(by(0, sent), by(1, sent), by(2, got(6)), by(2, got(5)))},
		{"receives in order take values out of order", setup(2), programs(program(send(0, 5), send(0, 6)), program(recv(0)), program(recv(0))),
			sequence(by(0, sent), by(0, sent), by(1, got(6)), by(2, got(5)))},
		{"too many values", setup(1), programs(program(send(0, 5)), program(send(0, 6))), together(by(0, sent), by(1, sent))},
		{"values that one open receive cannot take", setup(3), programs(program(send(0, 5), send(0, 6), send(0, 7)), program(recv(0)), program(recv(0))),
			append(sequence(by(0, sent), by(0, sent), by(0, sent)), call(1), call(2), ends(2, got(7)))},
		{"too many values for an open receive", setup(1), programs(program(send(0, 5)), program(send(0, 6)), program(send(0, 7)), program(recv(0))), events(call(3), call(0), call(1), call(2), ends(0, sent), ends(1, sent), ends(2, sent))},
		{"a receive that was called too late to make room", setup(1), programs(program(send(0, 5)), program(send(0, 6)), program(recv(0))),
			sequence(by(0, sent), by(1, sent), by(2, got(5)))},
		{"an end without a Close", setup(1), deal, sequence(by(1, gone))},
		{"an end before a Close", setup(1), programs(program(shut(0)), program(recv(0))), sequence(by(1, gone), by(0, shutOk))},
		{"an end while a value is left", setup(1), programs(program(send(0, 5), shut(0)), program(recv(0))), sequence(by(0, sent), by(0, shutOk), by(1, gone))},
		{"a Close of a nil channel that succeeds", setup(0), programs(program(shut(-1))), sequence(by(0, shutOk))},
		{"two that close", setup(0), programs(program(shut(0)), program(shut(0))), together(by(0, shutOk), by(1, shutOk))},
		{"a Close that panics first", setup(0), programs(program(shut(0)), program(shut(0))), sequence(by(0, panicked), by(1, shutOk))},
		{"a send behind a Close", setup(1), programs(program(send(0, 5)), program(shut(0))), sequence(by(1, shutOk), by(0, sent))},
		{"a rendezvous behind a Close", setup(0), programs(deal[0], deal[1], program(shut(0))), slices.Concat(sequence(by(2, shutOk)), together(by(0, sent), by(1, got(5))))},
		{"a send that panics without a Close", setup(1), deal, sequence(by(0, panicked))},
		{"a try that blocks on room", setup(1), programs(program(try(send(0, 5)))), sequence(by(0, blocked))},
		{"a try that blocks on a value", setup(1), programs(program(send(0, 5)), program(try(recv(0)))), sequence(by(0, sent), by(1, blocked))},
		{"no try that blocks", setup(0), deal, sequence(by(0, blocked))},
		{"no deadline", setup(0), deal, sequence(by(1, late))},
		{"a send that timed out and is received", setup(1), programs(program(timed(send(0, 5))), program(recv(0))), together(by(0, late), by(1, got(5)))},
		{"a Len of too many", setup(3), programs(program(send(0, 5)), program(length(0))), together(by(0, sent), by(1, counted(2)))},
		{"a Len of too few", setup(3), programs(program(send(0, 5)), program(length(0))), sequence(by(0, sent), by(1, counted(0)))},
		{"two Lens that go back and forth", setup(3), programs(program(send(0, 5)), program(length(0), length(0))), events(call(0), call(1), ends(1, counted(1)), call(1), ends(1, counted(0)), ends(0, sent))},
		{"a Cap of another number", setup(3), programs(program(capacity(0))), sequence(by(0, counted(2)))},
		{"the wrong one of two channels", setup(1, 1), programs(program(send(1, 5)), program(recv(0))), sequence(by(0, sent), by(1, got(5)))},
		{"a full house with one value too many", setup(16), programs(slices.Repeat([][]api.Op{program(send(0, 7), recv(0))}, 8)...), slices.Concat(together(eight(sent)...), second(append(eight(got(7))[:7], by(7, got(8)))))},
	}
}

func TestP17_2Possible(t *testing.T) {
	for _, s := range possible() {
		if !history.Check(s.l, s.ops) {
			t.Fatalf("%s: not a history", s.name)
		}
		if !linear.Check(s.config, s.ops, s.l) {
			t.Errorf("%s: Check finds no linearization", s.name)
		}
		order, ok := linear.Witness(s.config, s.ops, s.l)
		if !ok || !fulfils(s.config, s.ops, s.l, order) {
			t.Errorf("%s: Witness = %v, %v", s.name, order, ok)
		}
	}
}

func TestP17_2Impossible(t *testing.T) {
	for _, s := range impossible() {
		if !history.Check(s.l, s.ops) {
			t.Fatalf("%s: not a history", s.name)
		}
		if linear.Check(s.config, s.ops, s.l) {
			t.Errorf("%s: Check finds a linearization", s.name)
		}
		if order, ok := linear.Witness(s.config, s.ops, s.l); ok || order != nil {
			t.Errorf("%s: Witness = %v, %v", s.name, order, ok)
		}
	}
}

func TestP17_3Settled(t *testing.T) {
	deal := programs(program(send(0, 5)), program(recv(0)))
	for _, c := range []struct {
		story
		want bool
	}{
		{story{"nothing", setup(), nil, nil}, true},
		{story{"nothing was called", setup(1), programs(program(shut(0))), nil}, true},
		{story{"all have returned", setup(1), deal, sequence(by(0, sent), by(1, got(5)))}, true},
		{story{"a receive waits", setup(1), deal, events(call(1))}, true},
		{story{"a send waits", setup(0), deal, events(call(0))}, true},
		{story{"a send has room", setup(1), deal, events(call(0))}, false},
		{story{"a send has no room", setup(1), programs(program(send(0, 5), send(0, 6))), append(sequence(by(0, sent)), api.Event{Op: 1})}, true},
		{story{"a receive has a value", setup(1), deal, append(sequence(by(0, sent)), call(1))}, false},
		{story{"a receive has missed a Close", setup(1), programs(program(shut(0)), program(recv(0))), append(sequence(by(0, shutOk)), call(1))}, false},
		{story{"a send has missed a Close", setup(0), programs(program(shut(0)), program(send(0, 5))), append(sequence(by(0, shutOk)), call(1))}, false},
		{story{"two could meet", setup(0), deal, events(call(0), call(1))}, false},
		{story{"two wait at different channels", setup(0, 0), programs(program(send(0, 5)), program(recv(1))), events(call(0), call(1))}, true},
		{story{"two send", setup(0), programs(program(send(0, 5)), program(send(0, 5))), events(call(0), call(1))}, true},
		{story{"a select that could meet itself", setup(0), programs(program(choose(takes(0), gives(0, 1)))), events(call(0))}, true},
		{story{"a select that waits", setup(0, 0), programs(program(choose(takes(0), gives(1, 1), takes(-1)))), events(call(0))}, true},
		{story{"a select with a case that is ready", setup(0, 1), programs(program(choose(takes(0), gives(1, 1)))), events(call(0))}, false},
		{story{"a nil channel", setup(0), programs(program(recv(-1)), program(send(-1, 5))), events(call(0), call(1))}, true},
		{story{"a Close that has not returned", setup(0), programs(program(shut(0))), events(call(0))}, false},
		{story{"a Len that has not returned", setup(0), programs(program(length(0)), program(capacity(0))), events(call(0), call(1))}, true},
		{story{"a try that would block", setup(0), programs(program(try(recv(0)))), events(call(0))}, true},
		{story{"a deadline", setup(0), programs(program(timed(recv(0)))), events(call(0))}, true},
		{story{"operations that were not called are not asked", setup(0), programs(program(recv(0), shut(0)), program(shut(0))), events(call(0))}, true},
		// The calls that have returned need one that has not.
		{story{"a value of an open send", setup(1), deal, events(call(0), call(1), ends(1, got(5)))}, false},
		{story{"a rendezvous with an open receive", setup(0), deal, events(call(1), call(0), ends(0, sent))}, false},
		{story{"an end by an open Close", setup(0), programs(program(shut(0)), program(recv(0))), events(call(0), call(1), ends(1, gone))}, false},
		{story{"a Len that sees an open send", setup(2), programs(program(send(0, 5)), program(length(0))), events(call(0), call(1), ends(1, counted(1)))}, false},
		{story{"a send that need not be the one that Len sees", setup(1), programs(program(send(0, 5)), program(length(0)), program(send(0, 6))), events(call(0), call(2), call(1), ends(1, counted(1)), ends(2, sent))}, true},
		// There is no linearization at all.
		{story{"a value from nowhere", setup(1), deal, sequence(by(1, got(5)))}, false},
		{story{"a value from nowhere, and a receive that waits", setup(1), programs(program(recv(0)), program(recv(0))), events(call(0), call(1), ends(1, got(5)))}, false},
	} {
		if !history.Check(c.l, c.ops) {
			t.Fatalf("%s: not a history", c.name)
		}
		if linear.Settled(c.config, c.ops, c.l) != c.want {
			t.Errorf("%s: Settled is %v", c.name, !c.want)
		}
	}
}

func TestP17_4Stories(t *testing.T) {
	for _, s := range possible() {
		for n := range len(s.l) + 1 {
			if !linear.Check(s.config, s.ops, s.l[:n]) {
				t.Errorf("%s: the first %d events have no linearization", s.name, n)
			}
		}
	}
	for _, s := range slices.Concat(possible(), impossible()) {
		expectSameWithCall(t, s)
	}
}

// expectSameWithCall checks that a history that becomes longer by a call has a linearization exactly if it had one before.
func expectSameWithCall(t *testing.T, s story) {
	t.Helper()
	if len(history.Calls(s.l)) == 16 {
		return
	}
	want := linear.Check(s.config, s.ops, s.l)
	for thread := range len(s.ops) + 1 {
		for _, op := range []api.Op{send(0, 5), recv(0), shut(0), try(recv(0)), choose(takes(0), gives(0, 6))} {
			if thread < len(s.ops) && slices.ContainsFunc(history.Open(s.l), func(x [2]int) bool { return x[0] == thread }) {
				continue
			}
			ops := append(slices.Clone(s.ops), nil)
			e := api.Event{Thread: thread, Op: len(history.Calls(s.l)) - len(history.Calls(history.Without(s.l, thread)))}
			ops[thread] = append(slices.Clone(ops[thread][:e.Op]), op)
			l := append(slices.Clone(s.l), e)
			if !history.Check(l, ops) {
				t.Fatalf("%s: not a history with another call", s.name)
			}
			if linear.Check(s.config, ops, l) != want {
				t.Errorf("%s: with another call %v of thread %d Check is %v", s.name, op, thread, !want)
			}
		}
	}
}

func TestExamples(t *testing.T) {
	ops := programs(program(recv(0)), program(send(0, 5)))
	for _, capacity := range []int{0, 1, 16} {
		for _, l := range [][]api.Event{sequence(by(0, got(5))), sequence(by(0, got(5)), by(1, sent)), events(call(0), ends(0, got(5)), call(1))} {
			if linear.Check(setup(capacity), ops, l) {
				t.Errorf("capacity %d: %v has a linearization", capacity, l)
			}
		}
	}
}

func Example() {
	config := api.Config{Capacities: []int{1}, Starts: []uint64{0}, Threads: 2}
	ops := [][]api.Op{{{Kind: api.Send, Value: 7}}, {{Kind: api.Recv}}}
	l := []api.Event{
		{Thread: 0, Op: 0},
		{Thread: 1, Op: 0},
		{Thread: 1, Op: 0, Return: true, Result: api.Result{Kind: api.Received, Case: -1, Value: 7, Ok: true}},
	}
	order, found := linear.Witness(config, ops, l)
	fmt.Println(order, found)
	after, ok := linear.Step(model.New(config), ops, order[:1])
	fmt.Println(after, ok)
	fmt.Println(linear.Check(config, ops, l), linear.Settled(config, ops, l))
	// Output:
	// [{0 {1 -1 0 false 0}} {1 {2 -1 7 true 0}}] true
	// [{1 [7] false}] true
	// true false
}
