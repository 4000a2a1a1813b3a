package history_test

import (
	"fmt"
	"math"
	"math/rand"
	"slices"
	"testing"

	"chanfabric/api"
	"chanfabric/history"
)

// The result of most returns here.
var sent = api.Result{Kind: api.Sent, Case: -1}

// got returns the result of a receive.
func got(value uint64) api.Result {
	return api.Result{Kind: api.Received, Case: -1, Value: value, Ok: true}
}

// calls and returns return events; ends is a return with a result.
func calls(thread, op int) api.Event { return api.Event{Thread: thread, Op: op} }

func returns(thread, op int) api.Event { return ends(thread, op, sent) }

func ends(thread, op int, r api.Result) api.Event {
	return api.Event{Thread: thread, Op: op, Return: true, Result: r}
}

// with returns a call that has a result, which no history contains.
func with(e api.Event, r api.Result) api.Event {
	e.Result = r
	return e
}

// list writes down a list of events.
func list(l ...api.Event) []api.Event { return l }

// pairs writes down a list of calls.
func pairs(l ...[2]int) [][2]int { return l }

// programs returns operations: as many for each thread as the numbers say.
func programs(numbers ...int) [][]api.Op {
	ops := make([][]api.Op, len(numbers))
	for i, n := range numbers {
		for range n {
			ops[i] = append(ops[i], api.Op{Kind: api.Send, Value: 5})
		}
	}
	return ops
}

// Numbers at the ends of int and just below 0, which are indexes of nothing.
var extremes = []int{math.MinInt, math.MinInt + 1, -2, -1, math.MaxInt - 1, math.MaxInt}

func TestP16_1Histories(t *testing.T) {
	for i, c := range []struct {
		l   []api.Event
		ops [][]api.Op
	}{
		{nil, nil},
		{list(), [][]api.Op{}},
		{nil, programs(2, 0)},
		{list(calls(0, 0)), programs(1)},
		{list(calls(0, 0), returns(0, 0)), programs(1)},
		{list(calls(0, 0), returns(0, 0)), programs(3)},
		{list(calls(0, 0), returns(0, 0), calls(0, 1)), programs(2)},
		{list(calls(0, 0), returns(0, 0), calls(0, 1), returns(0, 1), calls(0, 2), returns(0, 2)), programs(3)},
		{list(calls(2, 0)), programs(0, 0, 1)},
		{list(calls(0, 0), calls(1, 0), returns(0, 0)), programs(1, 1)},
		{list(calls(1, 0), calls(0, 0), calls(2, 0), returns(2, 0), calls(2, 1), returns(0, 0), returns(1, 0), returns(2, 1)), programs(1, 1, 2)},
		{list(calls(1, 0), returns(1, 0), calls(1, 1), returns(1, 1), calls(0, 0)), programs(1, 2)},
		// Nothing is said of the results of returns, so they can be any.
		{list(calls(0, 0), ends(0, 0, api.Result{})), programs(1)},
		{list(calls(0, 0), ends(0, 0, api.Result{Kind: -3, Case: 99, Value: 1 << 63, Ok: true, Number: -1})), programs(1)},
		// Nothing is said of the operations either.
		{list(calls(0, 0), ends(0, 0, got(3))), [][]api.Op{{{}}}},
		{list(calls(0, 0), ends(0, 0, got(3))), [][]api.Op{{{Kind: 77, Mode: -1}}, nil}},
	} {
		if !history.Check(c.l, c.ops) {
			t.Errorf("case %d: %v is not a history", i, c.l)
		}
	}
}

func TestP16_1NoHistories(t *testing.T) {
	for i, c := range []struct {
		l   []api.Event
		ops [][]api.Op
	}{
		// Threads and operations that are not there.
		{list(calls(0, 0)), nil},
		{list(calls(0, 0)), programs(0)},
		{list(calls(1, 0)), programs(1)},
		{list(calls(-1, 0)), programs(1)},
		{list(calls(0, 0), returns(0, 0), calls(0, 1)), programs(1)},
		{list(calls(0, 0), returns(0, 0), calls(0, 1)), programs(1, 2)},
		{list(calls(0, 0), returns(1, 0)), programs(1)},
		{list(calls(0, 0), returns(0, 0), returns(0, 1)), programs(1)},
		// Events in another order, twice, or not at all.
		{list(returns(0, 0)), programs(1)},
		{list(returns(0, 0), calls(0, 0)), programs(1)},
		{list(calls(0, 0), calls(0, 0)), programs(2)},
		{list(calls(0, 0), calls(0, 1)), programs(2)},
		{list(calls(0, 0), returns(0, 0), returns(0, 0)), programs(2)},
		{list(calls(0, 0), returns(0, 0), calls(0, 0)), programs(2)},
		{list(calls(0, 0), returns(0, 1)), programs(2)},
		{list(calls(0, 0), returns(0, 0), returns(0, 1)), programs(2)},
		{list(calls(0, 1)), programs(2)},
		{list(calls(0, 1), returns(0, 1)), programs(2)},
		{list(calls(0, 0), returns(0, 0), calls(0, 2)), programs(3)},
		{list(calls(0, 1), calls(0, 0)), programs(2)},
		{list(calls(0, -1)), programs(2)},
		{list(calls(0, -1), returns(0, -1), calls(0, 0)), programs(2)},
		// A thread is out of order only because the events of another one are not its own.
		{list(calls(0, 0), returns(1, 0)), programs(1, 1)},
		{list(calls(0, 0), returns(0, 0), calls(1, 1)), programs(2, 2)},
		{list(calls(1, 0), returns(1, 0), calls(0, 0), calls(1, 1), calls(0, 1)), programs(2, 2)},
		// Calls with a result.
		{list(with(calls(0, 0), sent)), programs(1)},
		{list(with(calls(0, 0), api.Result{Case: -1})), programs(1)},
		{list(with(calls(0, 0), api.Result{Kind: 1})), programs(1)},
		{list(with(calls(0, 0), api.Result{Value: 1})), programs(1)},
		{list(with(calls(0, 0), api.Result{Ok: true})), programs(1)},
		{list(with(calls(0, 0), api.Result{Number: 1})), programs(1)},
		{list(calls(0, 0), returns(0, 0), with(calls(0, 1), sent)), programs(2)},
	} {
		if history.Check(c.l, c.ops) {
			t.Errorf("case %d: %v is a history", i, c.l)
		}
	}
	for _, n := range extremes {
		for _, l := range [][]api.Event{list(calls(n, 0)), list(calls(0, n)), list(returns(n, n)), list(calls(0, 0), returns(0, n)), list(calls(0, 0), returns(n, 0))} {
			if history.Check(l, programs(3)) {
				t.Errorf("%v is a history", l)
			}
		}
	}
}

// mixed is no history: some of its returns come before their calls, or have none, and some of its events come twice.
func mixed() []api.Event {
	return list(
		ends(1, 0, got(7)), calls(0, 0), calls(1, 0), with(calls(0, 0), sent), calls(2, 5),
		ends(0, 0, got(8)), ends(0, 0, got(9)), calls(-1, -1), ends(4, 4, api.Result{}), calls(2, 5),
		calls(1, 1), calls(1, 0), ends(-1, -1, sent), calls(5, 2),
	)
}

func TestP16_2Called(t *testing.T) {
	for _, c := range []struct{ thread, op, want int }{
		{0, 0, 1}, {1, 0, 2}, {2, 5, 4}, {-1, -1, 7}, {1, 1, 10}, {5, 2, 13},
		{4, 4, -1}, {0, 1, -1}, {2, 0, -1}, {5, 5, -1}, {-1, 0, -1}, {math.MaxInt, math.MinInt, -1},
	} {
		if got := history.Called(mixed(), c.thread, c.op); got != c.want {
			t.Errorf("Called of %d, %d is %d, expected %d", c.thread, c.op, got, c.want)
		}
	}
	if got := history.Called(nil, 0, 0); got != -1 {
		t.Errorf("Called without events is %d", got)
	}
}

func TestP16_2Returned(t *testing.T) {
	for _, c := range []struct {
		thread, op int
		result     api.Result
		want       int
	}{
		{1, 0, got(7), 0}, {0, 0, got(8), 5}, {4, 4, api.Result{}, 8}, {-1, -1, sent, 12},
		{2, 5, api.Result{}, -1}, {1, 1, api.Result{}, -1}, {5, 2, api.Result{}, -1}, {0, 1, api.Result{}, -1},
		{4, 0, api.Result{}, -1}, {math.MinInt, math.MaxInt, api.Result{}, -1},
	} {
		if r, i := history.Returned(mixed(), c.thread, c.op); r != c.result || i != c.want {
			t.Errorf("Returned of %d, %d is %v, %d, expected %v, %d", c.thread, c.op, r, i, c.result, c.want)
		}
	}
	if r, i := history.Returned(nil, 0, 0); r != (api.Result{}) || i != -1 {
		t.Errorf("Returned without events is %v, %d", r, i)
	}
}

func TestP16_2Precedes(t *testing.T) {
	sequence := list(calls(0, 0), returns(0, 0), calls(1, 0), calls(2, 0), returns(1, 0), calls(0, 1), returns(0, 1))
	overlap := list(calls(0, 0), calls(1, 0), returns(0, 0))
	for i, c := range []struct {
		l    []api.Event
		a, b [2]int
		want bool
	}{
		// The example of the chapter.
		{overlap, [2]int{0, 0}, [2]int{1, 0}, false},
		{overlap, [2]int{1, 0}, [2]int{0, 0}, false},
		{overlap, [2]int{0, 0}, [2]int{0, 0}, false},
		{sequence, [2]int{0, 0}, [2]int{1, 0}, true},
		{sequence, [2]int{1, 0}, [2]int{0, 0}, false},
		{sequence, [2]int{0, 0}, [2]int{2, 0}, true},
		{sequence, [2]int{1, 0}, [2]int{2, 0}, false},
		{sequence, [2]int{2, 0}, [2]int{1, 0}, false},
		{sequence, [2]int{0, 0}, [2]int{0, 1}, true},
		{sequence, [2]int{1, 0}, [2]int{0, 1}, true},
		// A call that is open precedes nothing.
		{sequence, [2]int{2, 0}, [2]int{0, 1}, false},
		// A call that is not there precedes nothing, and nothing precedes it.
		{sequence, [2]int{0, 0}, [2]int{1, 1}, false},
		{sequence, [2]int{0, 0}, [2]int{3, 0}, false},
		{sequence, [2]int{3, 0}, [2]int{0, 1}, false},
		{sequence, [2]int{3, 3}, [2]int{4, 4}, false},
		{sequence, [2]int{-1, 0}, [2]int{0, -1}, false},
		{nil, [2]int{0, 0}, [2]int{0, 1}, false},
		// Events that are no history: the first return and the first call decide, and a needs no call, b no return.
		{mixed(), [2]int{1, 0}, [2]int{1, 0}, true},
		{mixed(), [2]int{1, 0}, [2]int{5, 2}, true},
		{mixed(), [2]int{4, 4}, [2]int{1, 1}, true},
		{mixed(), [2]int{4, 4}, [2]int{2, 5}, false},
		{mixed(), [2]int{0, 0}, [2]int{2, 5}, false},
		{mixed(), [2]int{0, 0}, [2]int{-1, -1}, true},
		{mixed(), [2]int{0, 0}, [2]int{4, 4}, false},
		{list(returns(0, 0), calls(1, 0)), [2]int{0, 0}, [2]int{1, 0}, true},
		{list(calls(1, 0), returns(0, 0), calls(1, 0)), [2]int{0, 0}, [2]int{1, 0}, false},
		{list(returns(0, 0), calls(1, 0), returns(0, 0)), [2]int{0, 0}, [2]int{1, 0}, true},
	} {
		if got := history.Precedes(c.l, c.a, c.b); got != c.want {
			t.Errorf("case %d: Precedes of %v and %v is %v", i, c.a, c.b, got)
		}
	}
}

func TestP16_2CallsAndOpen(t *testing.T) {
	for i, c := range []struct {
		l           []api.Event
		calls, open [][2]int
	}{
		{nil, nil, nil},
		{list(), nil, nil},
		{list(returns(0, 0), returns(1, 0)), nil, nil},
		{list(calls(0, 0)), pairs([2]int{0, 0}), pairs([2]int{0, 0})},
		{list(calls(0, 0), returns(0, 0)), pairs([2]int{0, 0}), nil},
		{list(calls(2, 0), calls(0, 0), calls(1, 0), returns(0, 0), calls(0, 1)), pairs([2]int{2, 0}, [2]int{0, 0}, [2]int{1, 0}, [2]int{0, 1}), pairs([2]int{2, 0}, [2]int{1, 0}, [2]int{0, 1})},
		// A return of another thread or operation ends nothing.
		{list(calls(0, 1), returns(0, 0), returns(1, 1), returns(1, 0)), pairs([2]int{0, 1}), pairs([2]int{0, 1})},
		{list(calls(1, 2), returns(2, 1)), pairs([2]int{1, 2}), pairs([2]int{1, 2})},
		// Twice the same call, with and without a return, which may come first.
		{list(calls(0, 0), calls(1, 0), calls(0, 0)), pairs([2]int{0, 0}, [2]int{1, 0}, [2]int{0, 0}), pairs([2]int{0, 0}, [2]int{1, 0}, [2]int{0, 0})},
		{list(calls(0, 0), calls(1, 0), returns(0, 0), calls(0, 0)), pairs([2]int{0, 0}, [2]int{1, 0}, [2]int{0, 0}), pairs([2]int{1, 0})},
		{list(returns(0, 0), calls(0, 0)), pairs([2]int{0, 0}), nil},
		{list(ends(0, 0, api.Result{}), calls(0, 0)), pairs([2]int{0, 0}), nil},
		{mixed(), pairs([2]int{0, 0}, [2]int{1, 0}, [2]int{0, 0}, [2]int{2, 5}, [2]int{-1, -1}, [2]int{2, 5}, [2]int{1, 1}, [2]int{1, 0}, [2]int{5, 2}), pairs([2]int{2, 5}, [2]int{2, 5}, [2]int{1, 1}, [2]int{5, 2})},
	} {
		if got := history.Calls(c.l); !slices.Equal(got, c.calls) {
			t.Errorf("case %d: Calls is %v, expected %v", i, got, c.calls)
		}
		if got := history.Open(c.l); !slices.Equal(got, c.open) {
			t.Errorf("case %d: Open is %v, expected %v", i, got, c.open)
		}
	}
}

func TestP16_2Without(t *testing.T) {
	l := list(calls(0, 0), with(calls(1, 0), sent), ends(0, 0, got(4)), calls(-1, 3), calls(0, 1), calls(0, 1), ends(2, 0, got(5)))
	for _, c := range []struct {
		thread int
		want   []api.Event
	}{
		{0, list(with(calls(1, 0), sent), calls(-1, 3), ends(2, 0, got(5)))},
		{1, list(calls(0, 0), ends(0, 0, got(4)), calls(-1, 3), calls(0, 1), calls(0, 1), ends(2, 0, got(5)))},
		{2, l[:6]},
		{-1, list(calls(0, 0), with(calls(1, 0), sent), ends(0, 0, got(4)), calls(0, 1), calls(0, 1), ends(2, 0, got(5)))},
		{3, l},
		{math.MinInt, l},
		{math.MaxInt, l},
	} {
		if got := history.Without(l, c.thread); !slices.Equal(got, c.want) {
			t.Errorf("Without of %d is %v", c.thread, got)
		}
	}
	if len(history.Without(nil, 0)) != 0 || len(history.Without(list(calls(3, 0), returns(3, 0)), 3)) != 0 {
		t.Error("Without leaves something of nothing")
	}
}

// alternating returns as many events as are given, as a thread has them in a history, with the results of the given returns.
func alternating(thread int, given []api.Event) []api.Event {
	var l []api.Event
	for i, e := range given {
		if i%2 == 0 {
			l = append(l, calls(thread, i/2))
		} else {
			l = append(l, ends(thread, i/2, e.Result))
		}
	}
	return l
}

// isHistory is what P16.1 says of Check, thread by thread.
func isHistory(l []api.Event, ops [][]api.Op) bool {
	rest := len(l)
	for thread := range ops {
		var own []api.Event
		for _, e := range l {
			if e.Thread == thread {
				own = append(own, e)
			}
		}
		if !slices.Equal(own, alternating(thread, own)) || len(own) > 2*len(ops[thread]) {
			return false
		}
		rest -= len(own)
	}
	return rest == 0
}

// places returns the indexes of the events that are a call, or its return.
func places(l []api.Event, call [2]int, isReturn bool) []int {
	var indexes []int
	for i, e := range l {
		if e.Thread == call[0] && e.Op == call[1] && e.Return == isReturn {
			indexes = append(indexes, i)
		}
	}
	return indexes
}

// expectAnswers compares the questions of P16.2 about events and two calls with a second reading of the chapter.
func expectAnswers(t *testing.T, l []api.Event, a, b [2]int) {
	t.Helper()
	called, returned := places(l, b, false), places(l, a, true)
	at := history.Called(l, b[0], b[1])
	if len(called) == 0 && at != -1 || len(called) > 0 && at != called[0] {
		t.Fatalf("%v: Called of %v is %d", l, b, at)
	}
	r, at := history.Returned(l, a[0], a[1])
	if len(returned) == 0 && (at != -1 || r != api.Result{}) || len(returned) > 0 && (at != returned[0] || r != l[returned[0]].Result) {
		t.Fatalf("%v: Returned of %v is %v, %d", l, a, r, at)
	}
	precedes := len(called) > 0 && len(returned) > 0 && returned[0] < called[0]
	if history.Precedes(l, a, b) != precedes {
		t.Fatalf("%v: Precedes of %v and %v is %v", l, a, b, !precedes)
	}
}

// expectLists compares the lists of P16.2 with a second reading of the chapter.
func expectLists(t *testing.T, l []api.Event, thread int) {
	t.Helper()
	var all, open [][2]int
	for _, e := range l {
		call := [2]int{e.Thread, e.Op}
		if e.Return {
			continue
		}
		all = append(all, call)
		if len(places(l, call, true)) == 0 {
			open = append(open, call)
		}
	}
	others := slices.DeleteFunc(slices.Clone(l), func(e api.Event) bool { return e.Thread == thread })
	if got := history.Calls(l); !slices.Equal(got, all) {
		t.Fatalf("%v: Calls is %v", l, got)
	}
	if got := history.Open(l); !slices.Equal(got, open) {
		t.Fatalf("%v: Open is %v", l, got)
	}
	if got := history.Without(l, thread); !slices.Equal(got, others) {
		t.Fatalf("%v: Without of %d is %v", l, thread, got)
	}
}

// alphabet returns all events with these threads and operations, calls with and without a result among them.
func alphabet(threads, ops []int) []api.Event {
	var l []api.Event
	for _, thread := range threads {
		for _, op := range ops {
			e := calls(thread, op)
			l = append(l, e, with(e, api.Result{Case: -1}), ends(thread, op, api.Result{}), ends(thread, op, got(3)))
		}
	}
	return l
}

// eachList calls f with all lists of up to n events of an alphabet.
func eachList(letters []api.Event, n int, l []api.Event, f func([]api.Event)) {
	f(l)
	if n == 0 {
		return
	}
	for _, e := range letters {
		eachList(letters, n-1, append(l[:len(l):len(l)], e), f)
	}
}

func TestP16_1AllShortLists(t *testing.T) {
	found := 0
	check := func(l []api.Event, ops [][]api.Op) {
		want := isHistory(l, ops)
		if history.Check(l, ops) != want {
			t.Fatalf("Check of %v with %d threads is %v", l, len(ops), !want)
		}
		if want {
			found++
		}
	}
	eachList(alphabet([]int{-1, 0, 1, 2}, []int{-1, 0, 1, 2}), 3, nil, func(l []api.Event) {
		check(l, programs(2, 1))
	})
	eachList(alphabet([]int{0, 1}, []int{0, 1}), 5, nil, func(l []api.Event) {
		check(l, programs(2, 1))
	})
	if found < 100 {
		t.Errorf("only %d histories", found)
	}
}

func TestP16_2AllShortLists(t *testing.T) {
	threads, ops := []int{-1, 0, 1}, []int{-1, 0, 1}
	eachList(alphabet(threads, ops), 3, nil, func(l []api.Event) {
		expectLists(t, l, 0)
		for _, a := range pairs([2]int{0, 0}, [2]int{0, 1}, [2]int{1, 0}, [2]int{-1, -1}, [2]int{2, 0}) {
			expectAnswers(t, l, a, [2]int{0, 0})
			expectAnswers(t, l, a, [2]int{0, 1})
		}
	})
}

func TestP16_2RandomLists(t *testing.T) {
	source := rand.New(rand.NewSource(16))
	for range 3000 {
		letters := alphabet([]int{-1, 0, 1, 2, math.MaxInt}[:1+source.Intn(5)], []int{0, -1, 1, 2, math.MinInt}[:1+source.Intn(5)])
		var l []api.Event
		for range source.Intn(30) {
			l = append(l, letters[source.Intn(len(letters))])
		}
		expectLists(t, l, source.Intn(4)-1)
		for range 20 {
			a, b := letters[source.Intn(len(letters))], letters[source.Intn(len(letters))]
			expectAnswers(t, l, [2]int{a.Thread, a.Op}, [2]int{b.Thread, b.Op})
		}
	}
}

// eachHistory calls f with all histories of threads with these numbers of operations, where seen counts the events of each thread.
func eachHistory(numbers, seen []int, l []api.Event, f func([]api.Event)) {
	f(l)
	for thread, n := range numbers {
		if seen[thread] == 2*n {
			continue
		}
		e := calls(thread, seen[thread]/2)
		if seen[thread]%2 == 1 {
			e = returns(thread, seen[thread]/2)
		}
		seen[thread]++
		eachHistory(numbers, seen, append(l[:len(l):len(l)], e), f)
		seen[thread]--
	}
}

// expectInterval checks that Precedes is a strict partial order and an interval order on the calls of a history.
func expectInterval(t *testing.T, l []api.Event) {
	t.Helper()
	all := history.Calls(l)
	precedes := make([][]bool, len(all))
	for i, a := range all {
		for _, b := range all {
			precedes[i] = append(precedes[i], history.Precedes(l, a, b))
		}
	}
	var before [][2]int
	for i := range all {
		for j := range all {
			if precedes[i][j] {
				before = append(before, [2]int{i, j})
			}
			if precedes[i][j] && precedes[j][i] {
				t.Fatalf("%v: %v and %v precede each other", l, all[i], all[j])
			}
		}
	}
	for _, x := range before {
		for _, y := range before {
			if x[1] == y[0] && !precedes[x[0]][y[1]] {
				t.Fatalf("%v: Precedes is not transitive", l)
			}
			if !precedes[x[0]][y[1]] && !precedes[y[0]][x[1]] {
				t.Fatalf("%v: Precedes is not an interval order", l)
			}
		}
	}
}

// expectOneOpen checks that each thread has at most one open call, its last one, and that the calls of a thread precede each other in order.
func expectOneOpen(t *testing.T, l []api.Event) {
	t.Helper()
	open := map[int]bool{}
	for _, call := range history.Open(l) {
		if open[call[0]] {
			t.Fatalf("%v: thread %d has two open calls", l, call[0])
		}
		open[call[0]] = true
		if history.Called(l, call[0], call[1]+1) != -1 {
			t.Fatalf("%v: %v is open, but not the last call of its thread", l, call)
		}
	}
	for _, call := range history.Calls(l) {
		if call[1] > 0 && !history.Precedes(l, [2]int{call[0], call[1] - 1}, call) {
			t.Fatalf("%v: the call before %v does not precede it", l, call)
		}
	}
}

func TestP16_3AllHistories(t *testing.T) {
	for _, numbers := range [][]int{{0}, {3}, {1, 0, 2}, {3, 2}, {1, 1, 1}, {2, 1, 1}, {1, 1, 1, 1}} {
		ops := programs(numbers...)
		eachHistory(numbers, make([]int, len(numbers)), nil, func(l []api.Event) {
			if !history.Check(l, ops) {
				t.Fatalf("%v is not a history", l)
			}
			expectInterval(t, l)
			expectOneOpen(t, l)
			for thread := range numbers {
				if !history.Check(history.Without(l, thread), ops) {
					t.Fatalf("%v without %d is not a history", l, thread)
				}
			}
		})
	}
}

func TestP16_3RandomHistories(t *testing.T) {
	source := rand.New(rand.NewSource(163))
	for range 300 {
		numbers := make([]int, 1+source.Intn(api.MaxThreads))
		for i := range numbers {
			numbers[i] = source.Intn(4)
		}
		var l []api.Event
		seen := make([]int, len(numbers))
		for range source.Intn(8 * len(numbers)) {
			thread := source.Intn(len(numbers))
			at := seen[thread]
			if at == 2*numbers[thread] {
				continue
			}
			if at%2 == 0 {
				l = append(l, calls(thread, at/2))
			} else {
				l = append(l, ends(thread, at/2, got(uint64(at))))
			}
			seen[thread]++
		}
		if !history.Check(l, programs(numbers...)) {
			t.Fatalf("%v is not a history", l)
		}
		expectInterval(t, l)
		expectOneOpen(t, l)
	}
}

func TestLongLists(t *testing.T) {
	const threads, n = 1000, 1000000
	ops := programs(slices.Repeat([]int{n / threads}, threads)...)
	var l []api.Event
	for i := range n {
		l = append(l, calls(i%threads, i/threads))
		if i < n/2 {
			l = append(l, returns(i%threads, i/threads))
		}
	}
	if history.Check(l, ops) {
		t.Error("some threads make calls while another one is open, but this is a history")
	}
	if !history.Check(l[:n+threads], ops) {
		t.Error("each thread has one open call, but this is no history")
	}
	if got := len(history.Calls(l)); got != n {
		t.Errorf("%d calls", got)
	}
	open := history.Open(l)
	if len(open) != n/2 || open[0] != [2]int{0, n / 2 / threads} {
		t.Errorf("%d open calls", len(open))
	}
	if got := len(history.Without(l, 3)); got != (n+n/2)/threads*(threads-1) {
		t.Errorf("%d events of other threads", got)
	}
	if history.Called(l, threads-1, n/threads-1) != len(l)-1 {
		t.Error("Called of the last call")
	}
}

func TestArgumentsAreNotModified(t *testing.T) {
	spare := append(mixed(), mixed()...)
	ops := append(programs(2, 2), programs(1)...)
	for n := range spare {
		l := spare[:n]
		history.Check(l, ops[:2])
		history.Called(l, 1, 1)
		history.Returned(l, 0, 0)
		history.Precedes(l, [2]int{0, 0}, [2]int{1, 1})
		history.Calls(l)
		history.Open(l)
		history.Without(l, 0)
		if !slices.Equal(spare, append(mixed(), mixed()...)) {
			t.Fatalf("a call with %d events changes them", n)
		}
	}
	if len(ops) != 3 || len(ops[0]) != 2 || len(ops[2]) != 1 {
		t.Error("the operations are not what they were")
	}
}

func TestEarlierResultsStay(t *testing.T) {
	l := mixed()
	open, all, others := history.Open(l), history.Calls(l), history.Without(l, 0)
	keptOpen, keptAll, keptOthers := slices.Clone(open), slices.Clone(all), slices.Clone(others)
	for thread := range 6 {
		again := history.Without(l, thread)
		history.Open(again)
		history.Calls(again)
	}
	if !slices.Equal(open, keptOpen) || !slices.Equal(all, keptAll) || !slices.Equal(others, keptOthers) {
		t.Error("a later call changes an earlier result")
	}
	if !slices.Equal(history.Open(l), open) || !slices.Equal(history.Calls(l), all) || !slices.Equal(history.Without(l, 0), others) {
		t.Error("the same call has another result")
	}
}

func Example() {
	ops := [][]api.Op{{{Kind: api.Send, Value: 5}}, {{Kind: api.Recv}, {Kind: api.Close}}}
	l := []api.Event{
		{Thread: 1, Op: 0},
		{Thread: 0, Op: 0},
		{Thread: 0, Op: 0, Return: true, Result: api.Result{Kind: api.Sent, Case: -1}},
		{Thread: 1, Op: 0, Return: true, Result: api.Result{Kind: api.Received, Case: -1, Value: 5, Ok: true}},
		{Thread: 1, Op: 1},
	}
	fmt.Println(history.Check(l, ops), history.Called(l, 1, 1))
	r, i := history.Returned(l, 1, 0)
	fmt.Println(r.Value, i)
	fmt.Println(history.Precedes(l, [2]int{0, 0}, [2]int{1, 0}), history.Precedes(l, [2]int{0, 0}, [2]int{1, 1}))
	fmt.Println(history.Calls(l), history.Open(l), len(history.Without(l, 1)))
	// Output:
	// true 4
	// 5 3
	// false true
	// [[1 0] [0 0] [1 1]] [[1 1]] 2
}
