package linear_test

import (
	"math"
	"math/rand"
	"reflect"
	"slices"
	"testing"

	"chanfabric/api"
	"chanfabric/history"
	"chanfabric/linear"
	"chanfabric/model"
)

// A task is what a thread does; the operations behind its results have not returned.
type task struct {
	ops     []api.Op
	results []api.Result
}

// crowded returns the story in which the threads call their first operations before one returns, and their last ones return behind all other calls.
func crowded(name string, c api.Config, l ...task) story {
	s := story{name: name, config: c}
	var last []api.Event
	for thread, x := range l {
		s.ops = append(s.ops, x.ops)
		s.l = append(s.l, call(thread))
	}
	for thread, x := range l {
		for i, r := range x.results {
			if i == len(x.ops)-1 {
				last = append(last, ends(thread, r))
				break
			}
			s.l = append(s.l, ends(thread, r), call(thread))
		}
	}
	s.l = events(append(s.l, last...)...)
	return s
}

// wrong is a task that ends with an operation whose result is never possible.
func wrong(l ...task) task {
	var x task
	for _, other := range l {
		x.ops = append(x.ops, other.ops...)
		x.results = append(x.results, other.results...)
	}
	x.ops, x.results = append(x.ops, length(0)), append(x.results, counted(99))
	return x
}

// giver and taker are tasks that have sent or received values; idle one that has not returned.
func giver(l ...uint64) task {
	var x task
	for _, v := range l {
		x.ops, x.results = append(x.ops, send(0, v)), append(x.results, sent)
	}
	return x
}

func taker(l ...uint64) task {
	var x task
	for _, v := range l {
		x.ops, x.results = append(x.ops, recv(0)), append(x.results, got(v))
	}
	return x
}

func idle(op api.Op) task { return task{ops: program(op)} }

// Histories of 16 calls without a linearization, of which so many are nearly one that a search without a memory, or with one that tells too many states apart, does not come to an end.
func crowds() []story {
	var sends, sendsAndReceives, equal, open []task
	for i := range uint64(7) {
		sends = append(sends, giver(2*i, 2*i+1))
		sendsAndReceives = append(sendsAndReceives, task{program(send(0, i), recv(0)), []api.Result{sent, got((3*i + 1) % 7)}})
		equal = append(equal, task{program(send(0, 3), recv(0)), []api.Result{sent, got(3)}})
	}
	many := choose(gives(0, 1), gives(0, 2), gives(0, 3), gives(0, 4), gives(0, 5), gives(0, 6))
	each := choose(gives(0, 1), gives(1, 2), gives(2, 3), gives(3, 4), gives(4, 5), gives(5, 6))
	var spread []task
	for range 7 {
		open = append(open, idle(many))
		spread = append(spread, task{program(capacity(0), each), []api.Result{counted(16)}})
	}
	return []story{
		crowded("sends", setup(16), append(sends, wrong(giver(77)))...),
		crowded("sends and receives", setup(16), append(sendsAndReceives, wrong(giver(77)))...),
		crowded("equal sends and receives", setup(16), append(equal, wrong(giver(3)))...),
		crowded("selects that may send anything", setup(16), append(open, wrong(taker(1, 2, 3, 4, 5, 6, 1, 2)))...),
		crowded("selects that may send anywhere", setup(16, 16, 16, 16, 16, 16), append(spread, wrong(task{}))...),
		crowded("rendezvous", setup(0), giver(3, 3), giver(3, 3), giver(3, 3), giver(3), taker(3, 3), taker(3, 3), taker(3, 3), wrong(taker(3))),
	}
}

func TestCrowds(t *testing.T) {
	for _, s := range crowds() {
		if n := len(history.Calls(s.l)); !history.Check(s.l, s.ops) || n > 16 {
			t.Fatalf("%s: not a history of at most 16 calls, but %d", s.name, n)
		}
		if linear.Check(s.config, s.ops, s.l) || linear.Settled(s.config, s.ops, s.l) {
			t.Errorf("%s: a linearization", s.name)
		}
	}
}

func TestSixteenCalls(t *testing.T) {
	var tasks []task
	for i := range uint64(8) {
		tasks = append(tasks, task{program(send(0, i), recv(0)), []api.Result{sent, got((3*i + 1) % 8)}})
	}
	for _, n := range []int{8, 16} {
		s := crowded("sends and receives", setup(n), tasks...)
		order, found := linear.Witness(s.config, s.ops, s.l)
		if len(history.Calls(s.l)) != 16 || !found || len(order) != 16 || !fulfils(s.config, s.ops, s.l, order) {
			t.Errorf("Witness of %d calls is %v, %v", len(history.Calls(s.l)), order, found)
		}
		if !linear.Check(s.config, s.ops, s.l) || !linear.Settled(s.config, s.ops, s.l) {
			t.Errorf("no linearization of %v", s.l)
		}
	}
}

// Queues in which the order of the values decides, with receives that have not returned.
func TestQueues(t *testing.T) {
	source := rand.New(rand.NewSource(1702))
	counts := map[bool]int{}
	for range 4000 {
		ops := make([][]api.Op, 2+source.Intn(4))
		for range 5 + source.Intn(3) {
			thread := source.Intn(len(ops))
			op := recv(0)
			if source.Intn(2) == 0 {
				op = send(0, uint64(1+source.Intn(5)))
			}
			ops[thread] = append(ops[thread], op)
		}
		s := randomRun(source, setup(1+source.Intn(5)), ops)
		for i := range s.l {
			if s.l[i].Result.Kind == api.Received && source.Intn(3) == 0 {
				s.l[i].Result.Value = uint64(1 + source.Intn(5))
			}
		}
		found, _ := expectReading(t, s)
		counts[found]++
	}
	t.Log(counts)
	if counts[true] < 500 || counts[false] < 500 {
		t.Errorf("linearizable: %v", counts)
	}
}

// strange returns stories that the functions do not expect.
func strange() []story {
	deal := programs(program(send(0, 5)), program(recv(0)))
	both := together(by(0, sent), by(1, got(5)))
	l := []story{
		{"no history", setup(1), deal, []api.Event{ends(0, sent)}},
		{"no threads", setup(1), nil, both},
		{"another thread", setup(1), deal, []api.Event{call(math.MinInt), call(math.MaxInt), call(-1), call(2)}},
		{"other operations", setup(1), deal, []api.Event{{Op: math.MinInt}, {Op: math.MaxInt}, {Op: -1, Return: true}, {Op: 1}}},
		{"the same call twice", setup(1), deal, []api.Event{call(0), call(0), ends(0, sent), ends(0, sent)}},
		{"a call with a result", setup(1), deal, []api.Event{{Result: sent}}},
		{"no configuration", api.Config{}, deal, both},
		{"a capacity below 0", setup(-1, math.MinInt), deal, both},
		{"a great capacity", setup(math.MaxInt), deal, both},
		{"too many channels", setup(make([]int, 1000)...), deal, both},
		{"no starts", api.Config{Capacities: []int{0, 1}, Threads: 2}, deal, both},
		{"operations that are none", setup(0), programs(program(api.Op{}, api.Op{Kind: 99, Mode: -7, Channel: math.MinInt}), program(api.Op{Kind: -1, Cases: []api.Case{gives(0, 1)}})), together(by(0, sent), by(1, got(5)))},
		{"channels that are none", setup(0), programs(program(send(math.MaxInt, 5)), program(choose(takes(math.MinInt), gives(99, 1)))), together(by(0, sent), by(1, gotBy(0, 5)))},
		{"results that are none", setup(1), deal, together(by(0, api.Result{Kind: -1, Case: math.MaxInt, Value: math.MaxUint64, Number: math.MinInt}), by(1, gotBy(math.MinInt, 5)))},
		{"a Recv with cases", setup(0), programs(program(send(0, 5)), program(api.Op{Kind: api.Recv, Cases: []api.Case{gives(0, 1), takes(0)}})), events(call(1), call(0), ends(0, sent))},
	}
	for _, n := range []int{17, 40, 70, 3000} {
		l = append(l, story{"many calls", setup(16), slices.Repeat(deal, n), nil})
		last := &l[len(l)-1]
		for thread := range n {
			last.l = append(last.l, call(thread))
		}
		for thread := range n / 2 {
			last.l = append(last.l, ends(thread, got(5)))
		}
	}
	return l
}

func TestStrangeArguments(t *testing.T) {
	for _, s := range strange() {
		order, found := linear.Witness(s.config, s.ops, s.l)
		if !found && order != nil {
			t.Errorf("%s: Witness = %v, %v", s.name, order, found)
		}
		linear.Check(s.config, s.ops, s.l)
		linear.Settled(s.config, s.ops, s.l)
		for _, chans := range [][]api.Chan{nil, {open(-5, 1, 2)}, {closed(0, 5)}, model.New(s.config)} {
			for _, r := range []api.Result{sent, got(5), {}, {Kind: math.MinInt, Case: math.MinInt}, sentBy(math.MaxInt), gotBy(0, 1)} {
				after, ok := linear.Step(chans, s.ops, elements(by(0, r), by(1, r), by(0, sent)))
				if !ok && after != nil {
					t.Errorf("%s: Step = %v, %v", s.name, after, ok)
				}
			}
		}
	}
}

// roomy returns stories whose lists have spare capacity with something in it.
func roomy() []story {
	either := choose(takes(0), gives(1, 6), takes(1))
	either.Cases = append(either.Cases, gives(0, 7))[:3]
	ops := append(programs(append(program(send(0, 5), recv(0)), shut(0))[:2], program(either, send(0, 5))), program(recv(0)))[:2]
	l := events(call(0), call(1), ends(1, sentBy(1)), call(1), ends(0, sent), call(0), ends(0, got(5)), ends(1, sent))
	var stories []story
	for n := range len(l) + 1 {
		for _, c := range []api.Config{setup(1, 1), setup(0, 1), setup(3, 0)} {
			stories = append(stories, story{"", c, ops, l[:n]})
		}
	}
	return stories
}

// all returns the events of a story and what lies in their spare capacity.
func all(l []api.Event) []api.Event { return l[:cap(l)] }

func TestArgumentsAreNotModified(t *testing.T) {
	before, after := roomy(), roomy()
	for i, s := range after {
		linear.Check(s.config, s.ops, s.l)
		linear.Witness(s.config, s.ops, s.l)
		linear.Settled(s.config, s.ops, s.l)
		was := before[i]
		if !reflect.DeepEqual(s.config, was.config) || !slices.Equal(all(s.l), all(was.l)) || !reflect.DeepEqual(s.ops[:3], was.ops[:3]) {
			t.Fatalf("case %d: an argument was modified", i)
		}
		if !reflect.DeepEqual(s.ops[0][:3], was.ops[0][:3]) || !reflect.DeepEqual(s.ops[1][0].Cases[:4], was.ops[1][0].Cases[:4]) {
			t.Fatalf("case %d: spare capacity was modified", i)
		}
	}
	chans := func() []api.Chan {
		l := []api.Chan{{Capacity: 3, Buffer: []uint64{5, 6, 7, 8}[:2]}, open(0), open(2, 9)}
		return l[:2]
	}
	order := func() []api.Done { return elements(by(0, sent), by(1, got(5)), by(0, shutOk), by(1, got(6)))[:3] }
	ops := programs(program(send(0, 4), shut(0)), program(recv(0), recv(0)))
	l, list := chans(), order()
	result, ok := linear.Step(l, ops, list)
	if !ok || !model.Same(result, []api.Chan{closed(3, 6, 4), open(0)}) {
		t.Errorf("Step = %v, %v", result, ok)
	}
	if !reflect.DeepEqual(l[:3], chans()[:3]) || !slices.Equal(l[0].Buffer[:4], []uint64{5, 6, 7, 8}) || !slices.Equal(list[:4], order()[:4]) {
		t.Error("Step modifies its arguments")
	}
}

func TestEarlierResultsStay(t *testing.T) {
	stories := possible()
	var orders [][]api.Done
	for _, s := range stories {
		order, _ := linear.Witness(s.config, s.ops, s.l)
		orders = append(orders, order)
	}
	kept := make([][]api.Done, len(orders))
	for i, order := range orders {
		kept[i] = slices.Clone(order)
	}
	for i, s := range stories {
		again, _ := linear.Witness(s.config, s.ops, s.l)
		if !slices.Equal(again, kept[i]) {
			t.Errorf("%s: Witness is %v and then %v", s.name, kept[i], again)
		}
	}
	for i, s := range stories {
		if !slices.Equal(orders[i], kept[i]) {
			t.Errorf("%s: a later call changes an earlier result", s.name)
		}
	}
}
