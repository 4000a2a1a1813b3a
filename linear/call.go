package linear

import (
	"iter"
	"slices"

	"chanfabric/api"
	"chanfabric/history"
)

// The greatest number of calls for which a linearization is searched.
const most = 16

// The Case of a result that names no case of a select, the index of a Send or Recv itself, and the number of a nil channel.
const none = -1

// A set of calls has a bit for each of them.
type set uint32

// A call is an operation that was called. What it did, and with which result, is known only if it has returned.
type call struct {
	thread   int
	op       api.Op
	before   set // the calls that precede it
	returned bool
	result   api.Result
	did      api.Case
}

// read returns the calls of a history, first those that have returned, in the order of their returns.
func read(ops [][]api.Op, l []api.Event) []call {
	pairs := ordered(l)
	calls := make([]call, len(pairs))
	for i, x := range pairs {
		result, at := history.Returned(l, x[0], x[1])
		op := ops[x[0]][x[1]]
		calls[i] = call{thread: x[0], op: op, returned: at >= 0, result: result, did: named(op, result.Case)}
		for j, y := range pairs {
			if history.Precedes(l, y, x) {
				calls[i].before |= single(j)
			}
		}
	}
	return calls
}

// ordered returns the calls that have returned, in the order of their returns, and then the open ones.
func ordered(l []api.Event) [][2]int {
	var pairs [][2]int
	for _, e := range l {
		if e.Return {
			pairs = append(pairs, [2]int{e.Thread, e.Op})
		}
	}
	return append(pairs, history.Open(l)...)
}

// single returns the set of one call.
func single(i int) set {
	return 1 << i
}

// took reports whether a call has received a value from a channel.
func (x call) took(channel int) bool {
	return x.returned && x.result.Kind == api.Received && x.result.Ok && x.did.Channel == channel
}

// mayTake reports whether a call that has not returned could receive from a channel.
func (x call) mayTake(channel int) bool {
	if x.returned {
		return false
	}
	for _, part := range parts(x.op) {
		if !part.Send && part.Channel == channel {
			return true
		}
	}
	return false
}

// answers returns the results with which a call could meet another one that has returned.
func (x call) answers(other call) []api.Result {
	if x.returned {
		return []api.Result{x.result}
	}
	var results []api.Result
	for i, part := range parts(x.op) {
		r := api.Result{Kind: api.Sent, Case: i}
		if !part.Send {
			r = api.Result{Kind: api.Received, Case: i, Value: other.did.Value, Ok: true}
		}
		results = append(results, r)
	}
	return results
}

// parts returns the cases of a Select, or the case that a Send or Recv is itself, with the indexes that results have for them.
func parts(op api.Op) iter.Seq2[int, api.Case] {
	if op.Kind == api.Select {
		return slices.All(op.Cases)
	}
	return func(yield func(int, api.Case) bool) {
		if op.Kind == api.Send || op.Kind == api.Recv {
			yield(none, api.Case{Send: op.Kind == api.Send, Channel: op.Channel, Value: op.Value})
		}
	}
}

// named returns the case that the Case of a result names, or one of a nil channel if it names none.
func named(op api.Op, index int) api.Case {
	for i, part := range parts(op) {
		if i == index {
			return part
		}
	}
	return api.Case{Channel: none}
}
