package cases_test

import (
	"fmt"
	"math"
	"slices"
	"testing"

	"chanfabric/api"
	"chanfabric/cases"
	"chanfabric/draw"
)

// receives returns cases that receive from the channels.
func receives(channels ...int) []api.Case {
	list := make([]api.Case, len(channels))
	for i, channel := range channels {
		list[i].Channel = channel
	}
	return list
}

// fabricOf returns a configuration with n channels.
func fabricOf(n int) api.Config {
	return api.Config{Capacities: make([]int, n), Starts: make([]uint64, n), Threads: 1}
}

// checkCase is an operation and what Check should say of it.
type checkCase struct {
	op   api.Op
	want api.Errno
}

func runChecks(t *testing.T, list []checkCase) {
	t.Helper()
	for i, c := range list {
		if got := cases.Check(c.op); got != c.want {
			t.Errorf("case %d: Check(%+v) = %d, expected %d", i, c.op, got, c.want)
		}
	}
}

func TestP3_1ValidOperations(t *testing.T) {
	sixDraws := []int{0, 1, 2, 3, 4, 5}
	runChecks(t, []checkCase{
		{api.Op{Kind: api.Send}, api.OK},
		{api.Op{Kind: api.Send, Channel: 7, Value: math.MaxUint64}, api.OK},
		{api.Op{Kind: api.Send, Mode: api.Try, Channel: -1, Value: 1}, api.OK},
		{api.Op{Kind: api.Send, Mode: api.Timed, Value: 1, Deadline: api.MaxTime}, api.OK},
		{api.Op{Kind: api.Recv}, api.OK},
		{api.Op{Kind: api.Recv, Mode: api.Try, Channel: 7}, api.OK},
		{api.Op{Kind: api.Recv, Mode: api.Timed}, api.OK},
		{api.Op{Kind: api.Recv, Mode: api.Timed, Channel: api.Nil, Deadline: 1}, api.OK},
		{api.Op{Kind: api.Close, Channel: -1}, api.OK},
		{api.Op{Kind: api.Len, Channel: 3}, api.OK},
		{api.Op{Kind: api.Cap, Channel: 7}, api.OK},
		{api.Op{Kind: api.Recv, Cases: []api.Case{}, Draws: []int{}}, api.OK},
		{api.Op{Kind: api.Select}, api.OK},
		{api.Op{Kind: api.Select, Mode: api.Try}, api.OK},
		{api.Op{Kind: api.Select, Mode: api.Timed, Deadline: 5}, api.OK},
		{api.Op{Kind: api.Select, Cases: receives(-1), Draws: []int{0}}, api.OK},
		{api.Op{Kind: api.Select, Cases: []api.Case{{Send: true, Channel: 7, Value: math.MaxUint64}, {Channel: 7}}, Draws: []int{0, 1}}, api.OK},
		{api.Op{Kind: api.Select, Mode: api.Try, Cases: receives(0, 1, 2, 3, 4, 5), Draws: sixDraws}, api.OK},
	})
}

func TestP3_1KindsAndModes(t *testing.T) {
	for _, kind := range []int{math.MinInt, -1, 0, api.Cap + 1, math.MaxInt} {
		runChecks(t, []checkCase{{api.Op{Kind: kind}, api.ErrRange}})
	}
	for kind := api.Send; kind <= api.Cap; kind++ {
		for _, mode := range []int{math.MinInt, -1, api.Timed + 1, math.MaxInt} {
			runChecks(t, []checkCase{{api.Op{Kind: kind, Mode: mode}, api.ErrRange}})
		}
		runChecks(t, []checkCase{{api.Op{Kind: kind}, api.OK}})
	}
}

func TestP3_1ChannelsAndDeadlines(t *testing.T) {
	for _, channel := range []int{math.MinInt, -2, api.MaxChannels, 1 << 32, math.MaxInt} {
		runChecks(t, []checkCase{
			{api.Op{Kind: api.Recv, Channel: channel}, api.ErrRange},
			{api.Op{Kind: api.Close, Channel: channel}, api.ErrRange},
			{api.Op{Kind: api.Select, Channel: channel}, api.ErrRange},
			{api.Op{Kind: api.Select, Cases: receives(channel), Draws: []int{0}}, api.ErrRange},
			{api.Op{Kind: api.Select, Cases: receives(0, 0, channel), Draws: []int{0, 0, 0}}, api.ErrRange},
			{api.Op{Kind: api.Recv, Cases: receives(channel)}, api.ErrRange},
		})
	}
	for channel := api.Nil; channel < api.MaxChannels; channel++ {
		runChecks(t, []checkCase{
			{api.Op{Kind: api.Recv, Channel: channel}, api.OK},
			{api.Op{Kind: api.Select, Cases: receives(0, channel), Draws: []int{0, 0}}, api.OK},
		})
	}
	for _, deadline := range []int{math.MinInt, -1, api.MaxTime + 1, math.MaxInt} {
		for mode := api.Blocking; mode <= api.Timed; mode++ {
			runChecks(t, []checkCase{
				{api.Op{Kind: api.Recv, Mode: mode, Deadline: deadline}, api.ErrRange},
				{api.Op{Kind: api.Select, Mode: mode, Deadline: deadline}, api.ErrRange},
			})
		}
	}
	for _, deadline := range []int{0, 1, api.MaxTime - 1, api.MaxTime} {
		runChecks(t, []checkCase{{api.Op{Kind: api.Recv, Mode: api.Timed, Deadline: deadline}, api.OK}})
	}
}

func TestP3_1TooMany(t *testing.T) {
	runChecks(t, []checkCase{
		{api.Op{Kind: api.Select, Cases: receives(0, 0, 0, 0, 0, 0), Draws: make([]int, 6)}, api.OK},
		{api.Op{Kind: api.Select, Cases: receives(0, 0, 0, 0, 0, 0, 0), Draws: make([]int, 7)}, api.ErrTooMany},
		{api.Op{Kind: api.Select, Cases: receives(0, 0, 0, 0, 0, 0, 0), Draws: make([]int, 6)}, api.ErrTooMany},
		{api.Op{Kind: api.Select, Cases: receives(0, 0, 0, 0, 0, 0), Draws: make([]int, 7)}, api.ErrTooMany},
		{api.Op{Kind: api.Select, Draws: make([]int, 7)}, api.ErrTooMany},
		{api.Op{Kind: api.Select, Cases: make([]api.Case, 100000), Draws: make([]int, 100000)}, api.ErrTooMany},
		{api.Op{Kind: api.Recv, Cases: make([]api.Case, 7)}, api.ErrTooMany},
		{api.Op{Kind: api.Close, Draws: make([]int, 7)}, api.ErrTooMany},
	})
}

func TestP3_1Draws(t *testing.T) {
	for i := range api.MaxCases {
		for _, drawn := range []int{math.MinInt, -1, 0, i, i + 1, math.MaxInt} {
			draws := make([]int, api.MaxCases)
			draws[i] = drawn
			want := api.OK
			if drawn < 0 || drawn > i {
				want = api.ErrRange
			}
			runChecks(t, []checkCase{{api.Op{Kind: api.Select, Cases: make([]api.Case, api.MaxCases), Draws: draws}, want}})
		}
	}
	runChecks(t, []checkCase{
		{api.Op{Kind: api.Select, Cases: receives(0), Draws: []int{0, 2}}, api.ErrRange},
		{api.Op{Kind: api.Select, Draws: []int{1}}, api.ErrRange},
		{api.Op{Kind: api.Recv, Draws: []int{1}}, api.ErrRange},
		{api.Op{Kind: api.Len, Draws: []int{0, -1}}, api.ErrRange},
	})
}

func TestP3_1ModesAndDeadlinesThatDoNotFit(t *testing.T) {
	for _, kind := range []int{api.Close, api.Len, api.Cap} {
		runChecks(t, []checkCase{
			{api.Op{Kind: kind}, api.OK},
			{api.Op{Kind: kind, Mode: api.Try}, api.ErrShape},
			{api.Op{Kind: kind, Mode: api.Timed}, api.ErrShape},
			{api.Op{Kind: kind, Mode: api.Timed, Deadline: 1}, api.ErrShape},
			{api.Op{Kind: kind, Deadline: 1}, api.ErrShape},
		})
	}
	for _, kind := range []int{api.Send, api.Recv, api.Select} {
		for _, deadline := range []int{1, api.MaxTime} {
			runChecks(t, []checkCase{
				{api.Op{Kind: kind, Deadline: deadline}, api.ErrShape},
				{api.Op{Kind: kind, Mode: api.Try, Deadline: deadline}, api.ErrShape},
				{api.Op{Kind: kind, Mode: api.Timed, Deadline: deadline}, api.OK},
			})
		}
	}
}

func TestP3_1FieldsThatDoNotFit(t *testing.T) {
	for kind := api.Send; kind <= api.Cap; kind++ {
		if kind == api.Select {
			continue
		}
		value := api.ErrShape
		if kind == api.Send {
			value = api.OK
		}
		runChecks(t, []checkCase{
			{api.Op{Kind: kind, Cases: receives(0)}, api.ErrShape},
			{api.Op{Kind: kind, Draws: []int{0}}, api.ErrShape},
			{api.Op{Kind: kind, Cases: receives(0), Draws: []int{0}}, api.ErrShape},
			{api.Op{Kind: kind, Channel: 2, Value: 1}, value},
			{api.Op{Kind: kind, Value: math.MaxUint64}, value},
		})
	}
	runChecks(t, []checkCase{
		{api.Op{Kind: api.Select, Channel: 1}, api.ErrShape},
		{api.Op{Kind: api.Select, Channel: -1}, api.ErrShape},
		{api.Op{Kind: api.Select, Value: 1}, api.ErrShape},
		{api.Op{Kind: api.Select, Cases: receives(0)}, api.ErrShape},
		{api.Op{Kind: api.Select, Draws: []int{0}}, api.ErrShape},
		{api.Op{Kind: api.Select, Cases: receives(0, 1), Draws: []int{0}}, api.ErrShape},
		{api.Op{Kind: api.Select, Cases: receives(0), Draws: []int{0, 1}}, api.ErrShape},
		{api.Op{Kind: api.Select, Cases: []api.Case{{Value: 1}}, Draws: []int{0}}, api.ErrShape},
		{api.Op{Kind: api.Select, Cases: []api.Case{{Send: true, Value: 1}, {Channel: -1, Value: 1 << 63}}, Draws: []int{0, 0}}, api.ErrShape},
		{api.Op{Kind: api.Select, Cases: []api.Case{{Send: true, Value: 1}, {Channel: -1}}, Draws: []int{0, 0}}, api.OK},
	})
}

func TestP3_1TheFirstErrorCounts(t *testing.T) {
	many := make([]api.Case, 7)
	outside := append(slices.Clone(many), api.Case{Channel: 8})
	runChecks(t, []checkCase{
		// A channel that is out of range comes before too many elements, also behind the last case that is allowed.
		{api.Op{Kind: api.Select, Cases: outside, Draws: make([]int, 8)}, api.ErrRange},
		{api.Op{Kind: api.Recv, Channel: 8, Draws: make([]int, 7)}, api.ErrRange},
		{api.Op{Kind: api.Recv, Mode: 3, Cases: many}, api.ErrRange},
		{api.Op{Kind: 0, Cases: many}, api.ErrRange},
		{api.Op{Kind: api.Recv, Deadline: -1, Cases: many}, api.ErrRange},
		// Too many elements come before a draw that is out of range.
		{api.Op{Kind: api.Select, Cases: many, Draws: []int{1}}, api.ErrTooMany},
		{api.Op{Kind: api.Select, Draws: []int{9, 9, 9, 9, 9, 9, 9}}, api.ErrTooMany},
		{api.Op{Kind: api.Send, Deadline: 1, Draws: make([]int, 7)}, api.ErrTooMany},
		// All of that comes before fields that do not fit together.
		{api.Op{Kind: api.Close, Mode: api.Try, Channel: 8}, api.ErrRange},
		{api.Op{Kind: api.Select, Channel: 1, Value: 1, Draws: []int{1}}, api.ErrRange},
		{api.Op{Kind: api.Select, Channel: 1, Value: 1, Cases: many}, api.ErrTooMany},
	})
}

// errorOf finds the error of an operation by going through the sentence of the document word for word.
func errorOf(op api.Op) api.Errno {
	errs := []api.Errno{}
	add := func(wrong bool, err api.Errno) {
		if wrong {
			errs = append(errs, err)
		}
	}
	add(op.Kind < 1 || op.Kind > 6 || op.Mode < 0 || op.Mode > 2, api.ErrRange)
	add(op.Channel < -1 || op.Channel > 7 || op.Deadline < 0 || op.Deadline > 1<<40, api.ErrRange)
	for _, c := range op.Cases {
		add(c.Channel < -1 || c.Channel > 7, api.ErrRange)
	}
	add(len(op.Cases) > 6 || len(op.Draws) > 6, api.ErrTooMany)
	for i, drawn := range op.Draws {
		add(drawn < 0 || drawn > i, api.ErrRange)
	}
	add(op.Mode != api.Blocking && (op.Kind == api.Close || op.Kind == api.Len || op.Kind == api.Cap), api.ErrShape)
	add(op.Deadline != 0 && op.Mode != api.Timed, api.ErrShape)
	add(op.Kind != api.Select && (len(op.Cases) != 0 || len(op.Draws) != 0), api.ErrShape)
	add(op.Kind != api.Select && op.Kind != api.Send && op.Value != 0, api.ErrShape)
	add(op.Kind == api.Select && (op.Channel != 0 || op.Value != 0), api.ErrShape)
	add(len(op.Draws) != len(op.Cases), api.ErrShape)
	for _, c := range op.Cases {
		add(!c.Send && c.Value != 0, api.ErrShape)
	}
	return append(errs, api.OK)[0]
}

func TestP3_1EveryCombination(t *testing.T) {
	listsOfCases := [][]api.Case{
		nil,
		receives(3),
		{{Send: true, Channel: -1, Value: 9}},
		{{Value: 9}},
		receives(8),
		{{Send: true, Value: 9}, {Channel: 2}},
		make([]api.Case, 7),
		append(make([]api.Case, 6), api.Case{Channel: -2}),
	}
	listsOfDraws := [][]int{nil, {0}, {1}, {0, 1}, {0, 2}, make([]int, 7), {-1, 0, 0, 0, 0, 0, 0}}
	found := map[api.Errno]int{}
	for kind := 0; kind <= 7; kind++ {
		for mode := -1; mode <= 3; mode++ {
			for _, channel := range []int{-2, -1, 0, 7, 8} {
				for _, value := range []uint64{0, 1} {
					for _, deadline := range []int{-1, 0, 1, api.MaxTime, api.MaxTime + 1} {
						for _, list := range listsOfCases {
							for _, draws := range listsOfDraws {
								op := api.Op{Kind: kind, Mode: mode, Channel: channel, Value: value, Deadline: deadline, Cases: list, Draws: draws}
								want := errorOf(op)
								found[want]++
								if got := cases.Check(op); got != want {
									t.Fatalf("Check(%+v) = %d, expected %d", op, got, want)
								}
							}
						}
					}
				}
			}
		}
	}
	for _, err := range []api.Errno{api.OK, api.ErrRange, api.ErrTooMany, api.ErrShape} {
		if found[err] == 0 {
			t.Errorf("no combination has the error %d", err)
		}
	}
}

func TestP3_2Exists(t *testing.T) {
	for _, c := range []struct {
		channels, channel int
		want              bool
	}{
		{0, 0, false},
		{0, -1, false},
		{1, 0, true},
		{1, 1, false},
		{1, -1, false},
		{8, 7, true},
		{8, 8, false},
		{20, 19, true},
		{20, 20, false},
		{8, math.MinInt, false},
		{8, math.MaxInt, false},
	} {
		if got := cases.Exists(fabricOf(c.channels), c.channel); got != c.want {
			t.Errorf("Exists(%d) = %v with %d channels", c.channel, got, c.channels)
		}
	}
	// Only the Capacities count.
	if cases.Exists(api.Config{Starts: make([]uint64, 3), Threads: 3}, 0) {
		t.Error("a channel without a capacity exists")
	}
	if !cases.Exists(api.Config{Capacities: []int{-1, 99}}, 1) {
		t.Error("a channel of a configuration that is not valid does not exist")
	}
}

func TestP3_2LocksOfASelect(t *testing.T) {
	for _, c := range []struct {
		channels    int
		cases, want []int
	}{
		{4, []int{3, 1, 3}, []int{1, 3}},
		{3, []int{3, 1, 3}, []int{1}},
		{1, []int{3, 1, 3}, nil},
		{0, []int{3, 1, 3}, nil},
		{8, nil, nil},
		{8, []int{-1}, nil},
		{8, []int{-1, -1, 0}, []int{0}},
		{8, []int{0, 0, 0, 0, 0, 0}, []int{0}},
		{8, []int{7, 6, 5, 4, 3, 2}, []int{2, 3, 4, 5, 6, 7}},
		{8, []int{2, 3, 4, 5, 6, 7}, []int{2, 3, 4, 5, 6, 7}},
		{8, []int{5, -1, 0, 8, 5, 2}, []int{0, 2, 5}},
		{2, []int{1, 7, 1, -1, 7, 0}, []int{0, 1}},
		{30, []int{29, 9, 30, 10, 9, 11, 9, 29}, []int{9, 10, 11, 29}},
		{8, []int{math.MaxInt, math.MinInt, 4, math.MaxInt, 4, math.MinInt}, []int{4}},
	} {
		op := api.Op{Kind: api.Select, Cases: receives(c.cases...)}
		if got := cases.Locks(fabricOf(c.channels), op); !slices.Equal(got, c.want) {
			t.Errorf("the locks of %v with %d channels are %v, expected %v", c.cases, c.channels, got, c.want)
		}
	}
	// The directions of the cases make no difference, and the Channel of a Select does not count.
	op := api.Op{Kind: api.Select, Channel: 2, Cases: []api.Case{{Channel: 3}, {Send: true, Channel: 1, Value: 5}, {Send: true, Channel: 3}}}
	if got := cases.Locks(fabricOf(8), op); !slices.Equal(got, []int{1, 3}) {
		t.Errorf("Locks(%+v) = %v", op, got)
	}
}

func TestP3_2LocksOfEveryShortSelect(t *testing.T) {
	for code := range 6 * 6 * 6 * 6 {
		list := []int{code%6 - 1, code/6%6 - 1, code/36%6 - 1, code/216 - 1}
		for channels := range 6 {
			var want []int
			for channel := range channels {
				if slices.Contains(list, channel) {
					want = append(want, channel)
				}
			}
			if got := cases.Locks(fabricOf(channels), api.Op{Kind: api.Select, Cases: receives(list...)}); !slices.Equal(got, want) {
				t.Fatalf("the locks of %v with %d channels are %v, expected %v", list, channels, got, want)
			}
		}
	}
}

func TestP3_2LocksOfOtherOperations(t *testing.T) {
	for _, kind := range []int{api.Send, api.Recv, api.Close, api.Len, api.Cap, 0, -1, 7, math.MaxInt} {
		for channel := -2; channel <= 9; channel++ {
			var want []int
			if channel >= 0 && channel < 5 {
				want = []int{channel}
			}
			// The Cases of an operation that is not a Select do not count.
			op := api.Op{Kind: kind, Channel: channel, Cases: receives(0, 4)}
			if got := cases.Locks(fabricOf(5), op); !slices.Equal(got, want) {
				t.Errorf("Locks(%+v) = %v, expected %v", op, got, want)
			}
		}
	}
}

func TestP3_2LocksOfManyCases(t *testing.T) {
	const n = 200000
	list := make([]int, n)
	for i := range list {
		list[i] = n - i
	}
	got := cases.Locks(fabricOf(n), api.Op{Kind: api.Select, Cases: receives(list...)})
	if len(got) != n-1 || got[0] != 1 || got[n-2] != n-1 || !slices.IsSorted(got) {
		t.Errorf("%d locks", len(got))
	}
}

func TestP3_3Order(t *testing.T) {
	for _, c := range []struct {
		op   api.Op
		want []int
	}{
		{api.Op{Kind: api.Select}, nil},
		{api.Op{Kind: api.Select, Cases: receives(5), Draws: []int{0}}, []int{0}},
		{api.Op{Kind: api.Select, Cases: receives(3, 1), Draws: []int{0, 0}}, []int{1, 0}},
		{api.Op{Kind: api.Select, Cases: receives(3, 1), Draws: []int{0, 1}}, []int{0, 1}},
		{api.Op{Kind: api.Select, Cases: receives(3, 1, 3), Draws: []int{0, 0, 0}}, []int{1, 2, 0}},
		{api.Op{Kind: api.Select, Cases: receives(3, -1, 3), Draws: []int{0, 1, 2}}, []int{0, 1, 2}},
		// Operations that are not valid have an order too: that of their number of cases.
		{api.Op{Kind: api.Select, Draws: []int{0, 1}}, nil},
		{api.Op{Kind: api.Select, Cases: receives(3, 1, 3)}, []int{1, 2, 0}},
		{api.Op{Kind: api.Select, Cases: receives(3, 1, 3), Draws: []int{0, -1, 5}}, []int{0, 1, 2}},
		{api.Op{Kind: api.Select, Cases: receives(3, 1), Draws: []int{0, 0, 2, 3}}, []int{1, 0}},
		{api.Op{Kind: api.Recv, Cases: receives(3, 1)}, []int{1, 0}},
		{api.Op{Kind: api.Recv, Channel: 3}, nil},
		{api.Op{Kind: api.Select, Cases: make([]api.Case, 21)}, nil},
	} {
		if got := cases.Order(c.op); !slices.Equal(got, c.want) {
			t.Errorf("Order(%+v) = %v, expected %v", c.op, got, c.want)
		}
	}
	if got := cases.Order(api.Op{Kind: api.Select, Cases: make([]api.Case, 20)}); len(got) != 20 {
		t.Errorf("the order of 20 cases is %v", got)
	}
}

func TestP3_4Single(t *testing.T) {
	for _, c := range []struct {
		op   api.Op
		want api.Case
		ok   bool
	}{
		{api.Op{Kind: api.Send}, api.Case{Send: true}, true},
		{api.Op{Kind: api.Send, Channel: 3, Value: 9}, api.Case{Send: true, Channel: 3, Value: 9}, true},
		{api.Op{Kind: api.Send, Mode: api.Timed, Channel: -1, Value: math.MaxUint64, Deadline: 7}, api.Case{Send: true, Channel: -1, Value: math.MaxUint64}, true},
		{api.Op{Kind: api.Recv, Mode: api.Try, Channel: 3}, api.Case{Channel: 3}, true},
		{api.Op{Kind: api.Recv, Channel: -1}, api.Case{Channel: -1}, true},
		// Operations that are not valid have a case too.
		{api.Op{Kind: api.Recv, Channel: 99, Value: 9}, api.Case{Channel: 99, Value: 9}, true},
		{api.Op{Kind: api.Send, Mode: -1, Channel: math.MinInt, Deadline: -1, Cases: receives(1), Draws: []int{4}}, api.Case{Send: true, Channel: math.MinInt}, true},
		{api.Op{Kind: api.Close, Channel: 3}, api.Case{}, false},
		{api.Op{Kind: api.Select, Channel: 3, Value: 9, Cases: receives(1), Draws: []int{0}}, api.Case{}, false},
		{api.Op{Kind: api.Len, Channel: 3}, api.Case{}, false},
		{api.Op{Kind: api.Cap, Channel: 3, Value: 9}, api.Case{}, false},
		{api.Op{Channel: 3, Value: 9}, api.Case{}, false},
		{api.Op{Kind: -1, Channel: 3}, api.Case{}, false},
		{api.Op{Kind: 7, Channel: 3}, api.Case{}, false},
	} {
		if got, ok := cases.Single(c.op); got != c.want || ok != c.ok {
			t.Errorf("Single(%+v) = %+v, %v, expected %+v, %v", c.op, got, ok, c.want, c.ok)
		}
	}
}

func TestP3_5EveryListOfDrawsHasItsOwnOrder(t *testing.T) {
	for n := range api.MaxCases + 1 {
		seen := map[string]bool{}
		for k := range draw.Count(n) {
			draws, _ := draw.Nth(n, k)
			op := api.Op{Kind: api.Select, Cases: make([]api.Case, n), Draws: draws}
			if got := cases.Check(op); got != api.OK {
				t.Fatalf("Check(%+v) = %d", op, got)
			}
			order := cases.Order(op)
			if back, ok := draw.Draws(order); !ok || !slices.Equal(back, draws) {
				t.Fatalf("Order(%+v) = %v, which comes from the draws %v, %v", op, order, back, ok)
			}
			seen[fmt.Sprint(order)] = true
		}
		if len(seen) != draw.Count(n) {
			t.Errorf("%d cases have %d orders", n, len(seen))
		}
	}
}

func TestArgumentsAreNotModified(t *testing.T) {
	list := receives(7, 1, 7, 0, 6, 5)
	draws := []int{0, 1, 0, 2, 1, 3}
	keptCases, keptDraws := slices.Clone(list), slices.Clone(draws)
	// The first three elements are the argument, the others its spare capacity.
	op := api.Op{Kind: api.Select, Cases: list[:3], Draws: draws[:3]}
	for range 2 {
		if cases.Check(op) != api.OK || len(cases.Order(op)) != 3 || !slices.Equal(cases.Locks(fabricOf(8), op), []int{1, 7}) {
			t.Errorf("a wrong result for %+v", op)
		}
	}
	cases.Single(op)
	if !slices.Equal(list, keptCases) || !slices.Equal(draws, keptDraws) {
		t.Errorf("the arguments have become %v, %v", list, draws)
	}
}

func Example() {
	config := api.Config{Capacities: []int{0, 0, 2, 1}, Starts: make([]uint64, 4), Threads: 2}
	op := api.Op{
		Kind:  api.Select,
		Cases: []api.Case{{Channel: 3}, {Send: true, Channel: 1, Value: 5}, {Channel: 3}},
		Draws: []int{0, 0, 0},
	}
	fmt.Println(cases.Check(op) == api.OK, cases.Order(op), cases.Locks(config, op))
	fmt.Println(cases.Exists(config, 3), cases.Exists(config, 4), cases.Exists(config, api.Nil))
	fmt.Println(cases.Single(api.Op{Kind: api.Send, Channel: 1, Value: 5}))
	// Output:
	// true [1 2 0] [1 3]
	// true false false
	// {true 1 5} true
}
