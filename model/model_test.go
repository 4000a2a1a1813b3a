package model_test

import (
	"fmt"
	"math"
	"math/rand"
	"reflect"
	"slices"
	"testing"

	"chanfabric/api"
	"chanfabric/cases"
	"chanfabric/model"
)

// open returns an open channel.
func open(capacity int, values ...uint64) api.Chan {
	return api.Chan{Capacity: capacity, Buffer: values}
}

// closed returns a closed channel.
func closed(capacity int, values ...uint64) api.Chan {
	return api.Chan{Capacity: capacity, Buffer: values, Closed: true}
}

// send, recv, shut, length and capacity return operations on one channel; choose one on several.
func send(mode, channel int, value uint64) api.Op {
	return api.Op{Kind: api.Send, Mode: mode, Channel: channel, Value: value}
}

func recv(mode, channel int) api.Op {
	return api.Op{Kind: api.Recv, Mode: mode, Channel: channel}
}

func shut(channel int) api.Op {
	return api.Op{Kind: api.Close, Channel: channel}
}

func length(channel int) api.Op {
	return api.Op{Kind: api.Len, Channel: channel}
}

func capacity(channel int) api.Op {
	return api.Op{Kind: api.Cap, Channel: channel}
}

func choose(mode int, l ...api.Case) api.Op {
	return api.Op{Kind: api.Select, Mode: mode, Cases: l, Draws: make([]int, len(l))}
}

// gives and takes return cases of a select.
func gives(channel int, value uint64) api.Case {
	return api.Case{Send: true, Channel: channel, Value: value}
}

func takes(channel int) api.Case {
	return api.Case{Channel: channel}
}

// The results, each with the Case that it has.
func sent(index int) api.Result { return api.Result{Kind: api.Sent, Case: index} }

func got(index int, value uint64) api.Result {
	return api.Result{Kind: api.Received, Case: index, Value: value, Ok: true}
}

func gone(index int) api.Result { return api.Result{Kind: api.Received, Case: index} }

func panicked(index int) api.Result { return api.Result{Kind: api.Panicked, Case: index} }

func counted(number int) api.Result {
	return api.Result{Kind: api.Counted, Case: -1, Number: number}
}

// The results that have no Case.
var (
	blocked = api.Result{Kind: api.WouldBlock, Case: -1}
	late    = api.Result{Kind: api.TimedOut, Case: -1}
	shutOk  = api.Result{Kind: api.Closed, Case: -1}
)

// alike reports whether two lists of channels have the same fields, where a nil buffer is an empty one.
func alike(a, b []api.Chan) bool {
	if len(a) != len(b) {
		return false
	}
	for i := range a {
		if a[i].Capacity != b[i].Capacity || a[i].Closed != b[i].Closed || !slices.Equal(a[i].Buffer, b[i].Buffer) {
			return false
		}
	}
	return true
}

// clone returns channels that share nothing with l.
func clone(l []api.Chan) []api.Chan {
	var other []api.Chan
	for _, c := range l {
		c.Buffer = append([]uint64{}, c.Buffer...)
		other = append(other, c)
	}
	return other
}

// part returns the case with which an operation sends or receives, with the index that a result names.
func part(op api.Op, index int) (api.Case, bool) {
	switch {
	case op.Kind == api.Select && index >= 0 && index < len(op.Cases):
		return op.Cases[index], true
	case op.Kind == api.Send && index == -1:
		return gives(op.Channel, op.Value), true
	case op.Kind == api.Recv && index == -1:
		return takes(op.Channel), true
	}
	return api.Case{}, false
}

// isReady is what P14.1 says of Ready.
func isReady(l []api.Chan, x api.Case) bool {
	if x.Channel < 0 || x.Channel >= len(l) {
		return false
	}
	c := l[x.Channel]
	if x.Send {
		return c.Closed || len(c.Buffer) < c.Capacity
	}
	return c.Closed || len(c.Buffer) != 0
}

// effect is what P14.2 says of Apply, result by result.
func effect(l []api.Chan, op api.Op, r api.Result) ([]api.Chan, bool) {
	x, named := part(op, r.Case)
	if !named {
		x = api.Case{Channel: op.Channel}
	}
	exists := x.Channel >= 0 && x.Channel < len(l)
	after := clone(l)
	c := &api.Chan{}
	if exists {
		c = &after[x.Channel]
	}
	bare := func(index int) bool { return r == api.Result{Kind: r.Kind, Case: index} }
	switch r.Kind {
	case api.Sent:
		ok := named && x.Send && exists && !c.Closed && len(c.Buffer) < c.Capacity && bare(r.Case)
		c.Buffer = append(c.Buffer, x.Value)
		return after, ok
	case api.Received:
		ok := named && !x.Send && exists && r.Number == 0
		if !r.Ok {
			return after, ok && r.Value == 0 && c.Closed && len(c.Buffer) == 0
		}
		if !ok || len(c.Buffer) == 0 || c.Buffer[0] != r.Value {
			return nil, false
		}
		c.Buffer = append([]uint64{}, c.Buffer[1:]...)
		return after, true
	case api.Panicked:
		if op.Kind == api.Close {
			return after, bare(-1) && (!exists || c.Closed)
		}
		return after, named && x.Send && exists && c.Closed && bare(r.Case)
	case api.Closed:
		ok := op.Kind == api.Close && bare(-1) && exists && !c.Closed
		c.Closed = true
		return after, ok
	case api.WouldBlock:
		ok := bare(-1) && op.Mode == api.Try
		switch op.Kind {
		case api.Send:
			return after, ok && !isReady(l, gives(op.Channel, op.Value))
		case api.Recv:
			return after, ok && !isReady(l, takes(op.Channel))
		case api.Select:
			for _, other := range op.Cases {
				ok = ok && !isReady(l, other)
			}
			return after, ok
		}
		return nil, false
	case api.TimedOut:
		return after, bare(-1) && op.Mode == api.Timed
	case api.Counted:
		number := map[int]int{api.Len: len(c.Buffer), api.Cap: c.Capacity}
		want, ok := number[op.Kind]
		return after, ok && r == counted(want)
	}
	return nil, false
}

// together is what P14.3 says of Pair.
func together(l []api.Chan, a api.Op, x api.Result, b api.Op, y api.Result) bool {
	hands := func(a api.Op, x api.Result, b api.Op, y api.Result) bool {
		giver, ok := part(a, x.Case)
		taker, also := part(b, y.Case)
		if !ok || !also || !giver.Send || taker.Send || giver.Channel != taker.Channel {
			return false
		}
		if giver.Channel < 0 || giver.Channel >= len(l) || l[giver.Channel].Capacity > 0 || l[giver.Channel].Closed {
			return false
		}
		return x == sent(x.Case) && y == got(y.Case, giver.Value)
	}
	return hands(a, x, b, y) || hands(b, y, a, x)
}

// possible is what P14.4 says of Could.
func possible(l []api.Chan, op api.Op) []api.Result {
	var results []api.Result
	add := func(tried ...api.Result) {
		for _, r := range tried {
			if _, ok := effect(l, op, r); ok {
				results = append(results, r)
			}
		}
	}
	tryCase := func(x api.Case, index int) {
		add(panicked(index), sent(index))
		if x.Channel >= 0 && x.Channel < len(l) && len(l[x.Channel].Buffer) > 0 {
			add(got(index, l[x.Channel].Buffer[0]))
		}
		add(gone(index))
	}
	switch op.Kind {
	case api.Send, api.Recv:
		tryCase(api.Case{Channel: op.Channel}, -1)
	case api.Select:
		for i, x := range op.Cases {
			tryCase(x, i)
		}
	case api.Close:
		add(shutOk, panicked(-1))
	}
	return results
}

// expectApply expects what a call of Apply returns.
func expectApply(t *testing.T, l []api.Chan, op api.Op, r api.Result, want []api.Chan, ok bool) {
	t.Helper()
	after, done := model.Apply(l, op, r)
	if done != ok || ok && !alike(after, want) || !ok && after != nil {
		t.Errorf("Apply(%v, %+v, %+v) = %v, %v, expected %v, %v", l, op, r, after, done, want, ok)
	}
}

func TestP14_1New(t *testing.T) {
	for _, c := range []struct {
		config api.Config
		want   []api.Chan
	}{
		{api.Config{Threads: 1}, nil},
		{api.Config{Capacities: []int{0}, Starts: []uint64{5}, Threads: 1}, []api.Chan{open(0)}},
		{api.Config{Capacities: []int{3, 0, 16, 1}, Starts: []uint64{0, 1, 1<<63 - 1, 7}, Threads: 8}, []api.Chan{open(3), open(0), open(16), open(1)}},
		{api.Config{Capacities: make([]int, 8), Starts: make([]uint64, 8), Threads: 2}, make([]api.Chan, 8)},
	} {
		if l := model.New(c.config); !alike(l, c.want) {
			t.Errorf("New(%+v) = %v, expected %v", c.config, l, c.want)
		}
	}
}

func TestP14_1Ready(t *testing.T) {
	l := []api.Chan{open(0), closed(0), open(2), open(2, 7), open(2, 7, 8), open(2, 7, 8, 9), closed(2), closed(2, 7), closed(2, 7, 8), open(-1), closed(-1), open(0, 7), open(1, 0)}
	for _, c := range []struct {
		channel      int
		sends, takes bool
	}{
		{0, false, false}, {1, true, true}, {2, true, false}, {3, true, true}, {4, false, true}, {5, false, true},
		{6, true, true}, {7, true, true}, {8, true, true}, {9, false, false}, {10, true, true}, {11, false, true}, {12, false, true},
		{-1, false, false}, {13, false, false}, {math.MinInt, false, false}, {math.MaxInt, false, false},
	} {
		if got := model.Ready(l, gives(c.channel, 3)); got != c.sends {
			t.Errorf("Ready of a send on %d = %v", c.channel, got)
		}
		if got := model.Ready(l, takes(c.channel)); got != c.takes {
			t.Errorf("Ready of a receive from %d = %v", c.channel, got)
		}
	}
	if model.Ready(nil, gives(0, 1)) || model.Ready(nil, takes(0)) {
		t.Error("a case is Ready without channels")
	}
}

func TestP14_2SentAndReceived(t *testing.T) {
	l := []api.Chan{open(2), open(2, 5), open(2, 5, 6), closed(2, 5), closed(2), open(0), closed(0)}
	with := func(channel int, c api.Chan) []api.Chan {
		after := clone(l)
		after[channel] = c
		return after
	}
	for _, mode := range []int{api.Blocking, api.Try, api.Timed} {
		expectApply(t, l, send(mode, 0, 9), sent(-1), with(0, open(2, 9)), true)
		expectApply(t, l, send(mode, 1, 9), sent(-1), with(1, open(2, 5, 9)), true)
		expectApply(t, l, send(mode, 2, 9), sent(-1), nil, false)
		expectApply(t, l, send(mode, 3, 9), sent(-1), nil, false)
		expectApply(t, l, send(mode, 5, 9), sent(-1), nil, false)
		expectApply(t, l, send(mode, 7, 9), sent(-1), nil, false)
		expectApply(t, l, send(mode, -1, 9), sent(-1), nil, false)
		expectApply(t, l, recv(mode, 0), got(-1, 0), nil, false)
		expectApply(t, l, recv(mode, 0), gone(-1), nil, false)
		expectApply(t, l, recv(mode, 1), got(-1, 5), with(1, open(2)), true)
		expectApply(t, l, recv(mode, 2), got(-1, 5), with(2, open(2, 6)), true)
		expectApply(t, l, recv(mode, 2), got(-1, 6), nil, false)
		expectApply(t, l, recv(mode, 2), gone(-1), nil, false)
		expectApply(t, l, recv(mode, 3), got(-1, 5), with(3, closed(2)), true)
		expectApply(t, l, recv(mode, 3), gone(-1), nil, false)
		expectApply(t, l, recv(mode, 4), gone(-1), l, true)
		expectApply(t, l, recv(mode, 4), got(-1, 0), nil, false)
		expectApply(t, l, recv(mode, 6), gone(-1), l, true)
		expectApply(t, l, recv(mode, -1), gone(-1), nil, false)
		expectApply(t, l, send(mode, 1, 9), got(-1, 5), nil, false)
		expectApply(t, l, recv(mode, 1), sent(-1), nil, false)
		// The case of a select decides as an operation of its own would.
		op := choose(mode, takes(2), gives(1, 9), takes(-1), gives(4, 3), takes(4), gives(1, 8))
		expectApply(t, l, op, got(0, 5), with(2, open(2, 6)), true)
		expectApply(t, l, op, sent(1), with(1, open(2, 5, 9)), true)
		expectApply(t, l, op, panicked(3), l, true)
		expectApply(t, l, op, gone(4), l, true)
		expectApply(t, l, op, sent(5), with(1, open(2, 5, 8)), true)
		expectApply(t, l, op, sent(0), nil, false)
		expectApply(t, l, op, got(1, 5), nil, false)
		expectApply(t, l, op, gone(2), nil, false)
		for _, index := range []int{-2, -1, 6, 7, math.MinInt, math.MaxInt} {
			expectApply(t, l, op, got(index, 5), nil, false)
			expectApply(t, l, op, sent(index), nil, false)
			expectApply(t, l, op, gone(index), nil, false)
			expectApply(t, l, op, panicked(index), nil, false)
		}
	}
}

func TestP14_2PanickedAndClosed(t *testing.T) {
	l := []api.Chan{open(1), open(1, 4), closed(1), closed(1, 4), open(0), closed(0)}
	for channel, c := range l {
		if c.Closed {
			expectApply(t, l, shut(channel), panicked(-1), l, true)
			expectApply(t, l, shut(channel), shutOk, nil, false)
			expectApply(t, l, send(api.Blocking, channel, 1), panicked(-1), l, true)
		} else {
			after := clone(l)
			after[channel].Closed = true
			expectApply(t, l, shut(channel), shutOk, after, true)
			expectApply(t, l, shut(channel), panicked(-1), nil, false)
			expectApply(t, l, send(api.Blocking, channel, 1), panicked(-1), nil, false)
		}
		expectApply(t, l, recv(api.Blocking, channel), panicked(-1), nil, false)
		expectApply(t, l, recv(api.Blocking, channel), shutOk, nil, false)
		expectApply(t, l, shut(channel), panicked(0), nil, false)
		expectApply(t, l, shut(channel), api.Result{Kind: api.Closed}, nil, false)
	}
	for _, channel := range []int{-1, 6, 7} {
		expectApply(t, l, shut(channel), panicked(-1), l, true)
		expectApply(t, l, shut(channel), shutOk, nil, false)
		expectApply(t, l, send(api.Blocking, channel, 1), panicked(-1), nil, false)
	}
	expectApply(t, nil, shut(0), panicked(-1), nil, true)
}

func TestP14_2WouldBlockAndTimedOut(t *testing.T) {
	l := []api.Chan{open(1), open(1, 4), closed(1), open(0)}
	for _, c := range []struct {
		op func(mode int) api.Op
		ok bool
	}{
		{func(mode int) api.Op { return send(mode, 0, 1) }, false},
		{func(mode int) api.Op { return send(mode, 1, 1) }, true},
		{func(mode int) api.Op { return send(mode, 2, 1) }, false},
		{func(mode int) api.Op { return send(mode, 3, 1) }, true},
		{func(mode int) api.Op { return send(mode, -1, 1) }, true},
		{func(mode int) api.Op { return recv(mode, 0) }, true},
		{func(mode int) api.Op { return recv(mode, 1) }, false},
		{func(mode int) api.Op { return recv(mode, 2) }, false},
		{func(mode int) api.Op { return recv(mode, 3) }, true},
		{func(mode int) api.Op { return recv(mode, 4) }, true},
		{func(mode int) api.Op { return choose(mode) }, true},
		{func(mode int) api.Op { return choose(mode, takes(0), gives(1, 1), takes(-1), gives(3, 2), takes(3)) }, true},
		{func(mode int) api.Op { return choose(mode, takes(0), takes(-1), gives(0, 2)) }, false},
		{func(mode int) api.Op { return choose(mode, takes(2), takes(-1), gives(3, 2)) }, false},
	} {
		want := map[bool][]api.Chan{true: l}[c.ok]
		expectApply(t, l, c.op(api.Try), blocked, want, c.ok)
		expectApply(t, l, c.op(api.Blocking), blocked, nil, false)
		expectApply(t, l, c.op(api.Timed), blocked, nil, false)
		expectApply(t, l, c.op(api.Timed), late, l, true)
		expectApply(t, l, c.op(api.Blocking), late, nil, false)
		expectApply(t, l, c.op(api.Try), late, nil, false)
		for _, strange := range []api.Result{{Case: 0}, {Case: -2}, {Case: -1, Value: 1}, {Case: -1, Ok: true}, {Case: -1, Number: 1}} {
			strange.Kind = api.WouldBlock
			expectApply(t, l, c.op(api.Try), strange, nil, false)
			strange.Kind = api.TimedOut
			expectApply(t, l, c.op(api.Timed), strange, nil, false)
		}
	}
	for _, op := range []api.Op{shut(0), shut(-1), length(0), capacity(0)} {
		expectApply(t, l, op, blocked, nil, false)
		expectApply(t, l, op, late, nil, false)
	}
}

func TestP14_2Counted(t *testing.T) {
	l := []api.Chan{open(3), open(3, 4, 0), closed(16, 1, 2, 3, 4), open(0), closed(0), open(-2), open(1, 5, 5, 5)}
	for channel, c := range l {
		expectApply(t, l, length(channel), counted(len(c.Buffer)), l, true)
		expectApply(t, l, capacity(channel), counted(c.Capacity), l, true)
		for _, off := range []int{-1, 1} {
			expectApply(t, l, length(channel), counted(len(c.Buffer)+off), nil, false)
			expectApply(t, l, capacity(channel), counted(c.Capacity+off), nil, false)
		}
		expectApply(t, l, recv(api.Blocking, channel), counted(len(c.Buffer)), nil, false)
		expectApply(t, l, shut(channel), counted(0), nil, false)
		expectApply(t, l, choose(api.Try), counted(0), nil, false)
	}
	for _, channel := range []int{-1, len(l), math.MinInt, math.MaxInt} {
		expectApply(t, l, length(channel), counted(0), l, true)
		expectApply(t, l, capacity(channel), counted(0), l, true)
		expectApply(t, l, length(channel), counted(1), nil, false)
		expectApply(t, l, capacity(channel), counted(1), nil, false)
	}
	for _, strange := range []api.Result{{Kind: api.Counted}, {Kind: api.Counted, Case: -1, Value: 1}, {Kind: api.Counted, Case: -1, Ok: true}} {
		expectApply(t, l, length(0), strange, nil, false)
		expectApply(t, l, capacity(3), strange, nil, false)
	}
}

// someChans returns lists of channels in all sorts of states.
func someChans() [][]api.Chan {
	return [][]api.Chan{
		nil,
		{open(0)},
		{open(2, 1, 2)},
		{closed(1, 0), open(1)},
		{open(1, 0), closed(1), open(0)},
		{open(2, 1), closed(2, 1), open(-1)},
		{open(2, 2, 0), closed(2), closed(-1)},
		{open(0, 1), closed(0, 1), open(3, 1, 2, 0)},
		{open(1, 2, 1, 0), closed(1, 2, 1), open(0)},
	}
}

// someOps returns valid operations of all kinds and modes on the channels -1 to 3.
func someOps() []api.Op {
	var ops []api.Op
	for _, channel := range []int{0, 1, 2, -1, 3} {
		for _, mode := range []int{api.Blocking, api.Try, api.Timed} {
			ops = append(ops, send(mode, channel, 1), send(mode, channel, 0), recv(mode, channel),
				choose(mode, gives(channel, 2)), choose(mode, takes(channel)), choose(mode, takes(channel), gives(0, 1), takes(channel)),
				choose(mode, gives(channel, 0), gives(1, 2), takes(2)))
		}
		ops = append(ops, shut(channel), length(channel), capacity(channel))
	}
	for _, mode := range []int{api.Blocking, api.Try, api.Timed} {
		ops = append(ops, choose(mode), choose(mode, takes(0), takes(1), takes(2), gives(2, 1), gives(1, 1), gives(0, 1)))
	}
	return ops
}

// someResults returns results with all kinds and all sorts of fields.
func someResults() []api.Result {
	var results []api.Result
	for kind := range 9 {
		for _, index := range []int{-1, 0, 1, 2, -2, 6} {
			for value := range uint64(3) {
				for _, number := range []int{0, 1, 2, 3, -1} {
					r := api.Result{Kind: kind, Case: index, Value: value, Number: number}
					results = append(results, r)
					r.Ok = true
					results = append(results, r)
				}
			}
		}
	}
	return results
}

func TestOperationsOfTheseTestsAreValid(t *testing.T) {
	for _, op := range someOps() {
		if cases.Check(op) != api.OK {
			t.Errorf("%+v is not valid", op)
		}
	}
}

func TestP14_1ReadyOfAllCases(t *testing.T) {
	for _, l := range someChans() {
		for channel := -2; channel < 5; channel++ {
			for _, x := range []api.Case{takes(channel), gives(channel, 0), gives(channel, 1)} {
				if got := model.Ready(l, x); got != isReady(l, x) {
					t.Errorf("Ready(%v, %+v) = %v", l, x, got)
				}
			}
		}
	}
}

func TestP14_2ApplyOfAllOperationsAndResults(t *testing.T) {
	for _, l := range someChans() {
		for _, op := range someOps() {
			for _, r := range someResults() {
				want, ok := effect(l, op, r)
				expectApply(t, l, op, r, want, ok)
			}
		}
	}
}

func TestP14_3Pair(t *testing.T) {
	l := []api.Chan{open(0), closed(0), open(1), open(-1), closed(1), open(0)}
	for _, c := range []struct {
		a  api.Op
		x  api.Result
		b  api.Op
		y  api.Result
		ok bool
	}{
		{send(0, 0, 5), sent(-1), recv(0, 0), got(-1, 5), true},
		{send(0, 0, 0), sent(-1), recv(0, 0), got(-1, 0), true},
		{send(0, 3, 5), sent(-1), recv(0, 3), got(-1, 5), true},
		{send(api.Try, 0, 5), sent(-1), recv(api.Timed, 0), got(-1, 5), true},
		{send(api.Try, 0, 5), sent(-1), recv(api.Try, 0), got(-1, 5), true},
		{send(0, 0, 5), sent(-1), recv(0, 0), got(-1, 6), false},
		{send(0, 0, 0), sent(-1), recv(0, 0), gone(-1), false},
		{send(0, 0, 5), sent(-1), recv(0, 5), got(-1, 5), false},
		{send(0, 1, 5), sent(-1), recv(0, 1), got(-1, 5), false},
		{send(0, 2, 5), sent(-1), recv(0, 2), got(-1, 5), false},
		{send(0, 4, 5), sent(-1), recv(0, 4), got(-1, 5), false},
		{send(0, -1, 5), sent(-1), recv(0, -1), got(-1, 5), false},
		{send(0, 6, 5), sent(-1), recv(0, 6), got(-1, 5), false},
		{send(0, 0, 5), sent(-1), send(0, 0, 5), sent(-1), false},
		{send(0, 0, 5), sent(-1), send(0, 0, 5), got(-1, 5), false},
		{recv(0, 0), sent(-1), recv(0, 0), got(-1, 0), false},
		{recv(0, 0), got(-1, 0), recv(0, 0), got(-1, 0), false},
		{send(0, 0, 5), got(-1, 5), recv(0, 0), sent(-1), false},
		{send(0, 0, 5), panicked(-1), recv(0, 0), got(-1, 5), false},
		{send(api.Try, 0, 5), blocked, recv(api.Try, 0), blocked, false},
		{send(0, 0, 5), sent(0), recv(0, 0), got(-1, 5), false},
		{send(0, 0, 5), sent(-1), recv(0, 0), got(0, 5), false},
		{send(0, 0, 5), sent(-2), recv(0, 0), got(-1, 5), false},
		{send(0, 0, 5), sent(-1), recv(0, 0), got(-2, 5), false},
		{send(0, 0, 5), got(-1, 0), recv(0, 0), got(-1, 5), false},
		{send(0, 0, 5), api.Result{Kind: api.Sent, Case: -1, Value: 5}, recv(0, 0), got(-1, 5), false},
		{send(0, 0, 5), api.Result{Kind: api.Sent, Case: -1, Ok: true}, recv(0, 0), got(-1, 5), false},
		{send(0, 0, 5), api.Result{Kind: api.Sent, Case: -1, Number: 1}, recv(0, 0), got(-1, 5), false},
		{send(0, 0, 5), sent(-1), recv(0, 0), api.Result{Kind: api.Received, Case: -1, Value: 5, Ok: true, Number: 1}, false},
		{choose(0, takes(1), gives(0, 7)), sent(1), recv(0, 0), got(-1, 7), true},
		{choose(0, takes(1), gives(0, 7)), sent(0), recv(0, 0), got(-1, 7), false},
		{choose(0, takes(0), gives(0, 7)), got(0, 5), send(0, 0, 5), sent(-1), true},
		{choose(0, gives(0, 6), gives(0, 7)), sent(1), choose(0, takes(3), takes(3), takes(0)), got(2, 7), true},
		{choose(0, gives(0, 6), gives(0, 7)), sent(1), choose(0, takes(3), takes(3), takes(0)), got(2, 6), false},
		{choose(0, gives(0, 6), gives(0, 7)), sent(1), choose(0, takes(3), takes(3), takes(0)), got(1, 7), false},
		{choose(0, gives(0, 6), gives(0, 7)), sent(2), choose(0, takes(3), takes(3), takes(0)), got(2, 7), false},
		{choose(0, gives(0, 6), gives(0, 7)), sent(1), choose(0, takes(3), takes(3), takes(0)), got(3, 7), false},
		{choose(0, gives(0, 6)), sent(-1), recv(0, 0), got(-1, 6), false},
		{choose(0, gives(0, 6)), sent(math.MinInt), recv(0, 0), got(math.MaxInt, 6), false},
		{shut(0), shutOk, recv(0, 0), gone(-1), false},
		{shut(0), sent(-1), recv(0, 0), got(-1, 0), false},
		{send(0, 0, 0), sent(-1), shut(0), got(-1, 0), false},
		{send(0, 0, 0), sent(-1), length(0), got(-1, 0), false},
	} {
		if got := model.Pair(l, c.a, c.x, c.b, c.y); got != c.ok {
			t.Errorf("Pair of %+v with %+v and %+v with %+v = %v", c.a, c.x, c.b, c.y, got)
		}
		if got := model.Pair(l, c.b, c.y, c.a, c.x); got != c.ok {
			t.Errorf("Pair of %+v with %+v and %+v with %+v = %v", c.b, c.y, c.a, c.x, got)
		}
	}
	if model.Pair(nil, send(0, 0, 5), sent(-1), recv(0, 0), got(-1, 5)) {
		t.Error("a Pair without channels")
	}
}

// pairing returns results that play a part in a Pair, and some that differ from them in one field.
func pairing() []api.Result {
	results := []api.Result{blocked, late, shutOk, panicked(-1), counted(0), {}}
	for _, index := range []int{-1, 0, 1, 2, 6} {
		results = append(results, sent(index), gone(index), got(index, 0), got(index, 1), got(index, 2),
			api.Result{Kind: api.Sent, Case: index, Ok: true}, api.Result{Kind: api.Received, Case: index, Ok: true, Number: 1},
			api.Result{Kind: api.Sent, Case: index, Value: 1}, api.Result{Kind: api.Received, Case: index, Value: 1})
	}
	return results
}

func TestP14_3PairOfAllOperations(t *testing.T) {
	source := rand.New(rand.NewSource(143))
	all := pairing()
	found := 0
	for _, l := range someChans() {
		for _, a := range someOps() {
			for _, b := range someOps() {
				// All results with all results would take long: results of a sender and a receiver, and two of any sort.
				tried := [][2]api.Result{{all[source.Intn(len(all))], all[source.Intn(len(all))]}}
				for _, x := range []api.Result{sent(-1), sent(0), sent(1)} {
					tried = append(tried, [2]api.Result{x, all[source.Intn(len(all))]})
					for value := range uint64(3) {
						for index := -1; index < 2; index++ {
							tried = append(tried, [2]api.Result{x, got(index, value)})
						}
					}
				}
				for _, r := range tried {
					want := together(l, a, r[0], b, r[1])
					if want {
						found++
					}
					if got := model.Pair(l, a, r[0], b, r[1]); got != want {
						t.Fatalf("Pair(%v, %+v, %+v, %+v, %+v) = %v", l, a, r[0], b, r[1], got)
					}
					if got := model.Pair(l, b, r[1], a, r[0]); got != want {
						t.Fatalf("Pair(%v, %+v, %+v, %+v, %+v) = %v", l, b, r[1], a, r[0], got)
					}
				}
			}
		}
	}
	if found < 1000 {
		t.Errorf("only %d times a Pair", found)
	}
}

func TestP14_4Could(t *testing.T) {
	l := []api.Chan{open(0), closed(0), open(1), open(1, 4), closed(2, 5, 6), open(2, 0)}
	for _, mode := range []int{api.Blocking, api.Try, api.Timed} {
		for _, c := range []struct {
			op   api.Op
			want []api.Result
		}{
			{send(mode, 0, 1), nil},
			{send(mode, 1, 1), []api.Result{panicked(-1)}},
			{send(mode, 2, 1), []api.Result{sent(-1)}},
			{send(mode, 3, 1), nil},
			{send(mode, 4, 1), []api.Result{panicked(-1)}},
			{send(mode, -1, 1), nil},
			{send(mode, 6, 1), nil},
			{recv(mode, 0), nil},
			{recv(mode, 1), []api.Result{gone(-1)}},
			{recv(mode, 2), nil},
			{recv(mode, 3), []api.Result{got(-1, 4)}},
			{recv(mode, 4), []api.Result{got(-1, 5)}},
			{recv(mode, 5), []api.Result{got(-1, 0)}},
			{recv(mode, -1), nil},
			{choose(mode), nil},
			{choose(mode, takes(0), gives(0, 1), takes(-1), gives(-1, 1), takes(2), gives(3, 1)), nil},
			{choose(mode, takes(3), gives(4, 1), takes(0), takes(1), gives(2, 3), takes(3)), []api.Result{got(0, 4), panicked(1), gone(3), sent(4), got(5, 4)}},
			{choose(mode, takes(0), takes(5), gives(5, 2)), []api.Result{got(1, 0), sent(2)}},
		} {
			if got := model.Could(l, c.op); !slices.Equal(got, c.want) {
				t.Errorf("Could of %+v = %+v, expected %+v", c.op, got, c.want)
			}
		}
	}
	for channel := -1; channel <= len(l); channel++ {
		want := []api.Result{panicked(-1)}
		if channel >= 0 && channel < len(l) && !l[channel].Closed {
			want = []api.Result{shutOk}
		}
		if got := model.Could(l, shut(channel)); !slices.Equal(got, want) {
			t.Errorf("Could of a Close of %d = %+v", channel, got)
		}
		if len(model.Could(l, length(channel))) > 0 || len(model.Could(l, capacity(channel))) > 0 {
			t.Errorf("Could of Len or Cap of %d", channel)
		}
	}
}

func TestP14_4CouldOfAllOperations(t *testing.T) {
	for _, l := range someChans() {
		for _, op := range someOps() {
			if got, want := model.Could(l, op), possible(l, op); !slices.Equal(got, want) {
				t.Errorf("Could(%v, %+v) = %+v, expected %+v", l, op, got, want)
			}
		}
	}
}

func TestP14_4MeetsOfAllOperations(t *testing.T) {
	found := 0
	for _, l := range someChans() {
		for _, a := range someOps() {
			for _, b := range someOps() {
				want := pairs(l, a, b)
				if want {
					found++
				}
				if got := model.Meets(l, a, b); got != want {
					t.Errorf("Meets(%v, %+v, %+v) = %v", l, a, b, got)
				}
			}
		}
	}
	if found == 0 {
		t.Error("no two operations Meet")
	}
}

// pairs reports whether P14.3 holds for two operations with some results.
func pairs(l []api.Chan, a, b api.Op) bool {
	for i := -1; i < api.MaxCases; i++ {
		x, _ := part(a, i)
		for j := -1; j < api.MaxCases; j++ {
			y, _ := part(b, j)
			if together(l, a, sent(i), b, got(j, x.Value)) || together(l, a, got(i, y.Value), b, sent(j)) {
				return true
			}
		}
	}
	return false
}

func TestP14_4Meets(t *testing.T) {
	l := []api.Chan{open(0), closed(0), open(1), open(-7), open(0)}
	for _, c := range []struct {
		a, b api.Op
		ok   bool
	}{
		{send(0, 0, 1), recv(0, 0), true},
		{send(0, 3, 1), recv(0, 3), true},
		{send(api.Try, 0, 1), recv(api.Timed, 0), true},
		{send(0, 0, 1<<64-1), recv(0, 0), true},
		{send(0, 0, 1), send(0, 0, 1), false},
		{recv(0, 0), recv(0, 0), false},
		{send(0, 0, 1), recv(0, 4), false},
		{send(0, 1, 1), recv(0, 1), false},
		{send(0, 2, 1), recv(0, 2), false},
		{send(0, -1, 1), recv(0, -1), false},
		{send(0, 5, 1), recv(0, 5), false},
		{send(0, 0, 1), shut(0), false},
		{shut(0), shut(0), false},
		{recv(0, 0), length(0), false},
		{recv(0, 0), capacity(0), false},
		{choose(0), recv(0, 0), false},
		{choose(0), choose(0), false},
		{choose(0, takes(1), takes(2), takes(-1), takes(4), gives(3, 1), gives(0, 2)), recv(0, 0), true},
		{choose(0, takes(1), takes(2), takes(-1), takes(4), gives(3, 1), gives(0, 2)), choose(0, takes(2), gives(2, 3), gives(4, 4)), true},
		{choose(0, takes(1), takes(2), takes(-1), takes(4), gives(3, 1), gives(0, 2)), choose(0, takes(2), gives(2, 3), gives(1, 4)), false},
	} {
		if model.Meets(l, c.a, c.b) != c.ok || model.Meets(l, c.b, c.a) != c.ok {
			t.Errorf("%+v meets %+v: %v, expected %v", c.a, c.b, !c.ok, c.ok)
		}
	}
	if model.Meets(nil, send(0, 0, 1), recv(0, 0)) {
		t.Error("two operations meet without channels")
	}
}

func TestP14_4Enabled(t *testing.T) {
	l := []api.Chan{open(0), closed(0), open(1), open(1, 4), open(0)}
	both := choose(0, takes(0), gives(0, 1))
	for i, c := range []struct {
		waiting []api.Waiter
		ok      bool
	}{
		{nil, false},
		{[]api.Waiter{}, false},
		{[]api.Waiter{{Thread: 0, Op: send(0, 0, 1)}}, false},
		{[]api.Waiter{{Thread: 0, Op: send(0, 0, 1)}, {Thread: 1, Op: recv(0, 0)}}, true},
		{[]api.Waiter{{Thread: 1, Op: recv(0, 0)}, {Thread: 0, Op: send(0, 0, 1)}}, true},
		{[]api.Waiter{{Thread: 1, Op: recv(0, 0)}, {Thread: 1, Op: send(0, 0, 1)}}, false},
		{[]api.Waiter{{Thread: 1, Op: recv(0, 0)}, {Thread: 1, Op: send(0, 0, 1)}, {Thread: -1, Op: send(0, 0, 1)}}, true},
		{[]api.Waiter{{Thread: 1, Op: recv(0, 0)}, {Thread: 2, Op: recv(0, 0)}, {Thread: 3, Op: send(0, 4, 1)}}, false},
		{[]api.Waiter{{Thread: 1, Op: recv(0, 0)}, {Thread: 2, Op: recv(0, 4)}, {Thread: 3, Op: send(0, 4, 1)}}, true},
		{[]api.Waiter{{Thread: 1, Op: recv(0, 4)}, {Thread: 2, Op: recv(0, 0)}, {Thread: 3, Op: send(0, 4, 1)}}, true},
		{[]api.Waiter{{Thread: 1, Op: both}}, false},
		{[]api.Waiter{{Thread: 1, Op: both}, {Thread: 1, Op: both}}, false},
		{[]api.Waiter{{Thread: 1, Op: both}, {Thread: 2, Op: both}}, true},
		{[]api.Waiter{{Thread: 0, Op: recv(0, 1)}}, true},
		{[]api.Waiter{{Thread: 0, Op: send(0, 1, 1)}}, true},
		{[]api.Waiter{{Thread: 0, Op: send(0, 2, 1)}}, true},
		{[]api.Waiter{{Thread: 0, Op: recv(0, 2)}}, false},
		{[]api.Waiter{{Thread: 0, Op: recv(0, 3)}}, true},
		{[]api.Waiter{{Thread: 0, Op: send(0, 3, 1)}}, false},
		{[]api.Waiter{{Thread: 0, Op: send(0, -1, 1)}, {Thread: 1, Op: recv(0, -1)}}, false},
		{[]api.Waiter{{Thread: 0, Op: send(0, 5, 1)}, {Thread: 1, Op: recv(0, 5)}}, false},
		{[]api.Waiter{{Thread: 0, Op: send(api.Timed, 0, 1)}, {Thread: 1, Op: choose(0)}, {Thread: 0, Op: recv(0, 3)}}, true},
		{[]api.Waiter{{Thread: 0, Op: shut(0)}}, true},
		{[]api.Waiter{{Thread: 0, Op: shut(-1)}}, true},
		{[]api.Waiter{{Thread: 0, Op: length(0)}, {Thread: 1, Op: capacity(0)}}, false},
		{[]api.Waiter{{Thread: 0, Op: choose(0, takes(0), takes(2))}, {Thread: 1, Op: choose(0, gives(4, 1), gives(3, 1))}}, false},
		{[]api.Waiter{{Thread: 0, Op: choose(0, takes(0), takes(2), gives(2, 3))}, {Thread: 1, Op: choose(0, gives(4, 1), gives(3, 1))}}, true},
	} {
		if got := model.Enabled(l, c.waiting); got != c.ok {
			t.Errorf("row %d: Enabled(%+v) = %v", i, c.waiting, got)
		}
	}
}

func TestP14_4EnabledOfRandomWaiters(t *testing.T) {
	source := rand.New(rand.NewSource(14))
	ops := someOps()
	answers := map[bool]int{}
	for range 20000 {
		l := someChans()[source.Intn(len(someChans()))]
		var waiting []api.Waiter
		for len(waiting) < 6 && source.Intn(5) > 0 {
			op := ops[source.Intn(len(ops))]
			if len(possible(l, op)) == 0 || source.Intn(10) == 0 {
				waiting = append(waiting, api.Waiter{Thread: source.Intn(3), Op: op})
			}
		}
		want := slices.ContainsFunc(waiting, func(w api.Waiter) bool { return len(possible(l, w.Op)) > 0 })
		for _, a := range waiting {
			for _, b := range waiting {
				want = want || a.Thread != b.Thread && pairs(l, a.Op, b.Op)
			}
		}
		answers[want]++
		if got := model.Enabled(l, waiting); got != want {
			t.Fatalf("Enabled(%v, %+v) = %v", l, waiting, got)
		}
	}
	if answers[true] < 1000 || answers[false] < 1000 {
		t.Errorf("the waiters are too much alike: %v", answers)
	}
}

func TestP14_5Same(t *testing.T) {
	for _, c := range []struct {
		a, b []api.Chan
		same bool
	}{
		{nil, nil, true},
		{nil, []api.Chan{}, true},
		{nil, []api.Chan{{}}, false},
		{[]api.Chan{{}}, []api.Chan{{}}, true},
		{[]api.Chan{{Buffer: []uint64{}}}, []api.Chan{{}}, true},
		{[]api.Chan{open(1)}, []api.Chan{open(2)}, false},
		{[]api.Chan{open(0)}, []api.Chan{open(-1)}, false},
		{[]api.Chan{open(1)}, []api.Chan{closed(1)}, false},
		{[]api.Chan{closed(1)}, []api.Chan{closed(1)}, true},
		{[]api.Chan{open(2, 5)}, []api.Chan{open(2)}, false},
		{[]api.Chan{open(2, 5)}, []api.Chan{open(2, 5, 0)}, false},
		{[]api.Chan{open(2, 5, 6)}, []api.Chan{open(2, 5, 6)}, true},
		{[]api.Chan{open(2, 5, 6)}, []api.Chan{open(2, 6, 5)}, false},
		{[]api.Chan{open(2, 5), open(1)}, []api.Chan{open(2, 5)}, false},
		{[]api.Chan{open(2, 5), open(1)}, []api.Chan{open(2, 5), open(1)}, true},
		{[]api.Chan{open(2, 5), open(1)}, []api.Chan{open(1), open(2, 5)}, false},
		{[]api.Chan{open(2, 5), open(1)}, []api.Chan{open(2, 5), closed(1)}, false},
		{[]api.Chan{open(2, 5), open(1, 3)}, []api.Chan{open(2, 5), open(1, 4)}, false},
	} {
		if model.Same(c.a, c.b) != c.same || model.Same(c.b, c.a) != c.same {
			t.Errorf("Same(%v, %v) = %v", c.a, c.b, !c.same)
		}
	}
	for i, a := range someChans() {
		for j, b := range someChans() {
			if got := model.Same(a, clone(b)); got != (i == j) {
				t.Errorf("Same(%v, %v) = %v", a, b, got)
			}
		}
	}
}

func TestP14_6CouldIsAccepted(t *testing.T) {
	for _, l := range someChans() {
		for _, op := range someOps() {
			for _, r := range model.Could(l, op) {
				if _, ok := model.Apply(l, op, r); !ok {
					t.Errorf("Could(%v, %+v) contains %+v, which Apply does not accept", l, op, r)
				}
			}
		}
	}
}

func TestP14_6OneResultOfAKindAndCase(t *testing.T) {
	for _, l := range someChans() {
		for _, op := range someOps() {
			seen := map[[2]int]api.Result{}
			for _, r := range someResults() {
				after, ok := model.Apply(l, op, r)
				if !ok {
					continue
				}
				key := [2]int{r.Kind, r.Case}
				if other, again := seen[key]; again && other != r {
					t.Errorf("%+v on %v takes effect with %+v and with %+v", op, l, other, r)
				}
				seen[key] = r
				if (r.Kind == api.WouldBlock || r.Kind == api.TimedOut) && !alike(after, l) {
					t.Errorf("%+v on %v changes the channels with %+v", op, l, r)
				}
			}
		}
	}
}

func TestP14_6NoSendAfterCloseAndValuesInOrder(t *testing.T) {
	source := rand.New(rand.NewSource(146))
	for range 300 {
		l := model.New(api.Config{Capacities: []int{source.Intn(5), source.Intn(17), 1}, Starts: make([]uint64, 3), Threads: 2})
		waiting := make([][]uint64, 3)
		shutChannels := map[int]bool{}
		for range 200 {
			channel := source.Intn(3)
			op := []api.Op{send(0, channel, source.Uint64()), send(0, channel, source.Uint64()), recv(0, channel)}[source.Intn(3)]
			if source.Intn(60) == 0 {
				op = shut(channel)
			}
			results := model.Could(l, op)
			if len(results) == 0 {
				continue
			}
			after, ok := model.Apply(l, op, results[0])
			switch r := results[0]; {
			case !ok || len(results) > 1:
				t.Fatalf("%+v on %v: %+v", op, l, results)
			case r.Kind == api.Sent && shutChannels[channel]:
				t.Fatalf("%+v succeeds on %v", op, l)
			case r.Kind == api.Sent:
				waiting[channel] = append(waiting[channel], op.Value)
			case r.Kind == api.Received && r.Ok:
				if len(waiting[channel]) == 0 || waiting[channel][0] != r.Value {
					t.Fatalf("%d is received from %v, expected %v", r.Value, l, waiting[channel])
				}
				waiting[channel] = waiting[channel][1:]
			case r.Kind == api.Closed:
				shutChannels[channel] = true
			}
			l = after
		}
	}
}

// strangeOps returns operations that are not valid.
func strangeOps() []api.Op {
	far := []int{math.MinInt, -2, -1, 0, 1, 2, 3, 8, math.MaxInt}
	ops := []api.Op{{}, {Kind: api.Send, Cases: []api.Case{takes(0)}}, {Kind: api.Select, Channel: 5, Value: 3, Cases: []api.Case{{Value: 7}}, Draws: []int{9, -1}}}
	for kind := -1; kind <= 8; kind++ {
		for mode := -1; mode <= 3; mode++ {
			for _, channel := range far {
				l := []api.Case{gives(channel, 1), takes(channel), takes(0), takes(1), gives(0, 1), gives(1, 1), takes(2), takes(2)}
				ops = append(ops, api.Op{Kind: kind, Mode: mode, Channel: channel, Value: 1, Deadline: channel, Cases: l, Draws: far})
			}
		}
	}
	return ops
}

func TestTotality(t *testing.T) {
	for _, config := range []api.Config{{}, {Threads: -1}, {Capacities: []int{-5, 17}}, {Capacities: make([]int, 9), Starts: []uint64{1 << 63}, Threads: 9}} {
		model.New(config)
	}
	results := []api.Result{{}, sent(-1), sent(0), got(0, 1), got(-1, 1), gone(7), panicked(8), blocked, late, shutOk, counted(0), counted(-7)}
	for _, index := range []int{math.MinInt, math.MaxInt} {
		for kind := range 9 {
			results = append(results, api.Result{Kind: kind, Case: index, Ok: true, Value: 1, Number: index})
		}
	}
	for _, l := range append(someChans(), []api.Chan{{Capacity: math.MinInt, Buffer: []uint64{1}}, {Capacity: math.MaxInt}}) {
		var waiting []api.Waiter
		for _, op := range strangeOps() {
			for _, x := range op.Cases {
				model.Ready(l, x)
			}
			for _, r := range results {
				if after, ok := model.Apply(l, op, r); !ok && after != nil {
					t.Errorf("Apply(%v, %+v, %+v) returns channels beside false", l, op, r)
				}
				model.Pair(l, op, r, send(0, 0, 1), sent(-1))
				model.Pair(l, recv(0, 0), got(-1, 1), op, r)
			}
			model.Could(l, op)
			model.Meets(l, op, op)
			waiting = append(waiting, api.Waiter{Thread: op.Channel, Op: op})
			model.Enabled(l, waiting[len(waiting)-1:])
		}
		model.Enabled(l, waiting)
	}
}

// spacious returns channels whose lists have spare capacity, in which numbers lie.
func spacious() []api.Chan {
	whole := []api.Chan{open(3, 1, 2, 70, 71), closed(3, 1, 2, 72, 73), open(0, 74, 75), closed(0, 76), open(9, 77), closed(9, 78), open(1, 79)}
	whole[0].Buffer = whole[0].Buffer[:2]
	whole[1].Buffer = whole[1].Buffer[:2]
	whole[2].Buffer = whole[2].Buffer[:0]
	whole[3].Buffer = whole[3].Buffer[:0]
	whole[4].Buffer = whole[4].Buffer[:0]
	return whole[:5]
}

// whole returns all elements of channels and their buffers, also those of the spare capacity.
func whole(l []api.Chan) []api.Chan {
	l = slices.Clone(l[:cap(l)])
	for i, c := range l {
		l[i].Buffer = slices.Clone(c.Buffer[:cap(c.Buffer)])
	}
	return l
}

func TestArgumentsAreNotModified(t *testing.T) {
	l := spacious()
	before := whole(l)
	ops := someOps()
	copies := make([]api.Op, len(ops))
	for i, op := range ops {
		copies[i] = op
		copies[i].Cases, copies[i].Draws = slices.Clone(op.Cases), slices.Clone(op.Draws)
	}
	var waiting []api.Waiter
	for _, op := range ops {
		for _, r := range append(someResults(), got(-1, 74), got(0, 74)) {
			model.Apply(l, op, r)
		}
		model.Could(l, op)
		model.Meets(l, op, ops[0])
		model.Pair(l, op, sent(-1), ops[2], got(-1, 1))
		waiting = append(waiting, api.Waiter{Op: op})
		model.Enabled(l, waiting)
	}
	model.Same(l, l)
	if !reflect.DeepEqual(whole(l), before) {
		t.Errorf("the channels became %v", l)
	}
	if !reflect.DeepEqual(ops, copies) {
		t.Error("an operation became another one")
	}
	capacities, starts := []int{1, 2, 3}, []uint64{4, 5, 6}
	model.New(api.Config{Capacities: capacities[:2], Starts: starts[:2], Threads: 1})
	if !slices.Equal(capacities, []int{1, 2, 3}) || !slices.Equal(starts, []uint64{4, 5, 6}) {
		t.Error("a configuration was modified")
	}
}

func TestResultsAreNewMemory(t *testing.T) {
	l := spacious()
	before := whole(l)
	overwrite := func(after []api.Chan) {
		after = after[:cap(after)]
		for i := range after {
			buffer := after[i].Buffer[:cap(after[i].Buffer)]
			for j := range buffer {
				buffer[j] = 99
			}
			after[i] = api.Chan{Capacity: 99}
		}
	}
	for _, op := range someOps() {
		for _, r := range someResults() {
			if after, ok := model.Apply(l, op, r); ok {
				again, _ := model.Apply(l, op, r)
				kept := clone(again)
				overwrite(after)
				if !alike(again, kept) {
					t.Fatalf("two results of Apply of %+v with %+v share memory", op, r)
				}
			}
		}
	}
	if !reflect.DeepEqual(whole(l), before) {
		t.Errorf("a result of Apply shares memory with its argument, which became %v", l)
	}
}

func Example() {
	l := model.New(api.Config{Capacities: []int{1, 0}, Starts: []uint64{0, 0}, Threads: 2})
	fmt.Println(model.Ready(l, api.Case{Send: true, Channel: 0}), model.Ready(l, api.Case{Send: true, Channel: 1}))
	l, ok := model.Apply(l, api.Op{Kind: api.Send, Channel: 0, Value: 5}, api.Result{Kind: api.Sent, Case: -1})
	fmt.Println(l[0].Buffer, ok)
	fmt.Println(model.Could(l, api.Op{Kind: api.Recv, Channel: 0}))
	sending, receiving := api.Op{Kind: api.Send, Mode: api.Try, Channel: 1, Value: 7}, api.Op{Kind: api.Recv, Channel: 1}
	_, ok = model.Apply(l, sending, api.Result{Kind: api.WouldBlock, Case: -1})
	fmt.Println(ok)
	fmt.Println(model.Pair(l, sending, api.Result{Kind: api.Sent, Case: -1}, receiving, api.Result{Kind: api.Received, Case: -1, Value: 7, Ok: true}))
	fmt.Println(model.Enabled(l, []api.Waiter{{Thread: 0, Op: sending}, {Thread: 1, Op: receiving}}))
	// Output:
	// true false
	// [5] true
	// [{2 -1 5 true 0}]
	// true
	// true
	// true
}
