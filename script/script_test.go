package script_test

import (
	"fmt"
	"math"
	"slices"
	"strings"
	"testing"

	"chanfabric/api"
	"chanfabric/cases"
	"chanfabric/layout"
	"chanfabric/script"
)

// These functions write down cases and operations.

func gives(channel int, value uint64) api.Case {
	return api.Case{Send: true, Channel: channel, Value: value}
}

func takes(channel int) api.Case { return api.Case{Channel: channel} }

func send(channel int, value uint64) api.Op {
	return api.Op{Kind: api.Send, Channel: channel, Value: value}
}

func on(kind, channel int) api.Op { return api.Op{Kind: kind, Channel: channel} }

func choice(draws []int, list ...api.Case) api.Op {
	return api.Op{Kind: api.Select, Draws: draws, Cases: list}
}

func try(op api.Op) api.Op {
	op.Mode = api.Try
	return op
}

func until(deadline int, op api.Op) api.Op {
	op.Mode, op.Deadline = api.Timed, deadline
	return op
}

// config returns a configuration whose channels all start with 0.
func config(threads int, capacities ...int) api.Config {
	return api.Config{Capacities: capacities, Starts: make([]uint64, len(capacities)), Threads: threads}
}

// alone returns the script of a single thread with these operations.
func alone(ops ...api.Op) api.Script {
	return api.Script{Config: config(1), Ops: [][]api.Op{ops}}
}

// picked returns the script of threads without operations, and these picks.
func picked(threads int, picks ...int) api.Script {
	return api.Script{Config: config(threads), Ops: make([][]api.Op, threads), Picks: picks}
}

// largest returns a script with as much as there may be of everything.
func largest() api.Script {
	s := api.Script{Config: config(8, 16, 16, 16, 16, 16, 16, 16, 16), Ops: make([][]api.Op, 8), Picks: make([]int, 4000)}
	for i := range s.Config.Starts {
		s.Config.Starts[i] = 1<<63 - 1
	}
	six := until(1<<40, choice([]int{0, 1, 2, 3, 4, 5}, slices.Repeat([]api.Case{gives(7, math.MaxUint64)}, 6)...))
	for i := range s.Ops {
		s.Ops[i] = slices.Repeat([]api.Op{six}, 16)
	}
	return s
}

// example is the script of the chapter, and exampleText its text.
func example() api.Script {
	return api.Script{
		Config: config(1, 1),
		Ops:    [][]api.Op{{send(0, 5), try(choice([]int{0, 1}, takes(0), gives(-1, 7)))}},
		Picks:  []int{0, 0, -3, 0},
	}
}

const exampleText = "channel 1 0\nthread\n  send 0 5\n  select recv 0 send -1 7 draws 0 1 try\npicks 0 0 -3 0\n"

func TestP20_1ValidScripts(t *testing.T) {
	for i, s := range []api.Script{
		example(),
		largest(),
		alone(),
		alone(send(7, math.MaxUint64)),
		alone(on(api.Recv, -1), on(api.Close, 3), on(api.Len, 0), on(api.Cap, 7), choice(nil)),
		{Config: config(1), Ops: [][]api.Op{{}}, Picks: []int{}},
		picked(1),
		picked(1, 0, -1, -1<<40),
		picked(3, 0, 1, 2, -5, 2),
		picked(8, 7),
		{Config: config(2, 0, 16), Ops: [][]api.Op{{}, make([]api.Op, 16)[:0]}},
		{Config: config(2), Ops: [][]api.Op{slices.Repeat([]api.Op{send(0, 1)}, 16), nil}},
	} {
		if got := script.Check(s); got != api.OK {
			t.Errorf("case %d: Check = %d", i, got)
		}
	}
}

func TestP20_1Configurations(t *testing.T) {
	for i, c := range []struct {
		config api.Config
		want   api.Errno
	}{
		{config(1, make([]int, 9)...), api.ErrTooMany},
		{api.Config{Capacities: []int{1}, Threads: 1}, api.ErrShape},
		{api.Config{Starts: []uint64{1}, Threads: 1}, api.ErrShape},
		{config(1, -1), api.ErrRange},
		{config(1, 0, 17), api.ErrRange},
		{api.Config{Capacities: []int{1}, Starts: []uint64{1 << 63}, Threads: 1}, api.ErrRange},
		{config(0), api.ErrRange},
		{config(9), api.ErrRange},
		{config(-1), api.ErrRange},
		{config(math.MaxInt), api.ErrRange},
		{config(math.MinInt), api.ErrRange},
		{api.Config{}, api.ErrRange},
	} {
		ops := make([][]api.Op, max(0, min(c.config.Threads, 20)))
		if got := script.Check(api.Script{Config: c.config, Ops: ops}); got != c.want || got != layout.Check(c.config) {
			t.Errorf("case %d: Check = %d, expected %d", i, got, c.want)
		}
	}
}

func TestP20_1Shapes(t *testing.T) {
	for threads := 1; threads <= 8; threads++ {
		for lists := range 20 {
			want := api.ErrShape
			if lists == threads {
				want = api.OK
			}
			if got := script.Check(api.Script{Config: config(threads), Ops: make([][]api.Op, lists)}); got != want {
				t.Errorf("Check with %d threads and %d lists of operations = %d, expected %d", threads, lists, got, want)
			}
		}
	}
}

// badOps returns operations with every error of cases.Check.
func badOps() []api.Op {
	return []api.Op{
		{},
		{Kind: 7},
		{Kind: math.MinInt},
		{Kind: api.Send, Mode: 3},
		{Kind: api.Send, Mode: -1},
		send(8, 0),
		send(-2, 0),
		until(-1, send(0, 0)),
		until(1<<40+1, send(0, 0)),
		choice([]int{0}, takes(8)),
		choice([]int{0, 0}, takes(0), gives(-2, 0)),
		choice(make([]int, 7), make([]api.Case, 7)...),
		choice([]int{1}, takes(0)),
		choice([]int{0, -1}, takes(0), takes(0)),
		choice([]int{0}),
		choice(nil, takes(0)),
		choice([]int{0}, api.Case{Value: 1}),
		try(on(api.Close, 0)),
		until(0, on(api.Len, 0)),
		try(on(api.Cap, 0)),
		{Kind: api.Recv, Value: 1},
		{Kind: api.Recv, Deadline: 1},
		{Kind: api.Recv, Mode: api.Try, Deadline: 1},
		{Kind: api.Send, Cases: []api.Case{{}}},
		{Kind: api.Send, Draws: []int{0}},
		{Kind: api.Select, Channel: 1},
		{Kind: api.Select, Value: 1},
	}
}

func TestP20_1Operations(t *testing.T) {
	for i, op := range badOps() {
		want := cases.Check(op)
		if want == api.OK {
			t.Fatalf("operation %d is valid", i)
		}
		for thread := range 8 {
			for at := range 16 {
				s := api.Script{Config: config(8), Ops: make([][]api.Op, 8)}
				s.Ops[thread] = slices.Repeat([]api.Op{send(0, 1)}, 16)
				s.Ops[thread][at] = op
				if got := script.Check(s); got != want {
					t.Fatalf("Check with operation %d at %d of thread %d = %d, expected %d", i, at, thread, got, want)
				}
			}
		}
	}
}

func TestP20_1TooManyOperations(t *testing.T) {
	for thread := range 8 {
		for _, n := range []int{16, 17, 18, 1000} {
			s := api.Script{Config: config(8), Ops: make([][]api.Op, 8)}
			s.Ops[thread] = slices.Repeat([]api.Op{send(0, 1)}, n)
			want := api.OK
			if n > 16 {
				want = api.ErrTooMany
			}
			if got := script.Check(s); got != want {
				t.Errorf("Check with %d operations of thread %d = %d, expected %d", n, thread, got, want)
			}
		}
	}
}

func TestP20_1Picks(t *testing.T) {
	for _, n := range []int{3999, 4000, 4001, 4002, 100000} {
		want := api.OK
		if n > 4000 {
			want = api.ErrTooMany
		}
		if got := script.Check(picked(1, make([]int, n)...)); got != want {
			t.Errorf("Check with %d picks = %d, expected %d", n, got, want)
		}
	}
	for threads := 1; threads <= 8; threads++ {
		for _, pick := range []int{math.MinInt, -1<<40 - 1, -1 << 40, 1 - 1<<40, -1, 0, threads - 1, threads, threads + 1, 8, 1 << 32, 1 << 40, math.MaxInt} {
			want := api.OK
			if pick < -1<<40 || pick >= threads {
				want = api.ErrRange
			}
			for _, picks := range [][]int{{pick}, {pick, 0, -1}, {0, -1, pick}, append(make([]int, 3999), pick)} {
				if got := script.Check(picked(threads, picks...)); got != want {
					t.Errorf("Check with %d threads and the pick %d = %d, expected %d", threads, pick, got, want)
				}
			}
		}
	}
}

// A defect makes a script invalid.
type defect struct {
	want  api.Errno
	apply func(s *api.Script)
}

// defects returns defects in the order in which their errors apply; neighbours have different errors where that is possible.
func defects() []defect {
	return []defect{
		{api.ErrTooMany, func(s *api.Script) {
			s.Config.Capacities = append(s.Config.Capacities, make([]int, 8)...)
			s.Config.Starts = append(s.Config.Starts, make([]uint64, 8)...)
		}},
		{api.ErrShape, func(s *api.Script) { s.Config.Starts = append(s.Config.Starts, 0) }},
		{api.ErrRange, func(s *api.Script) { s.Config.Capacities[0] = 17 }},
		{api.ErrRange, func(s *api.Script) { s.Config.Starts[0] = 1 << 63 }},
		{api.ErrRange, func(s *api.Script) { s.Config.Threads = 9 }},
		{api.ErrShape, func(s *api.Script) { s.Ops = append(s.Ops, nil) }},
		{api.ErrTooMany, func(s *api.Script) { s.Ops[0] = append(s.Ops[0], slices.Repeat([]api.Op{send(0, 1)}, 15)...) }},
		{api.ErrShape, func(s *api.Script) { s.Ops[0][0] = try(on(api.Close, 0)) }},
		{api.ErrRange, func(s *api.Script) { s.Ops[0][1] = api.Op{} }},
		{api.ErrTooMany, func(s *api.Script) { s.Ops[1] = append(s.Ops[1], slices.Repeat([]api.Op{send(0, 1)}, 15)...) }},
		{api.ErrRange, func(s *api.Script) { s.Ops[1][0] = send(8, 0) }},
		{api.ErrShape, func(s *api.Script) { s.Ops[1][1] = choice([]int{0}) }},
		{api.ErrTooMany, func(s *api.Script) { s.Picks = append(s.Picks, make([]int, 4000)...) }},
		{api.ErrRange, func(s *api.Script) { s.Picks[0] = 10 }},
	}
}

// forSpoiled calls a function with a script for every set of defects, and with the error of the first one.
func forSpoiled(do func(s api.Script, want api.Errno)) {
	list := defects()
	for set := range 1 << len(list) {
		s := api.Script{
			Config: config(2, 1, 2),
			Ops:    [][]api.Op{{send(0, 1), on(api.Recv, 0)}, {on(api.Len, 0), choice(nil)}},
			Picks:  []int{0, 1},
		}
		want := api.OK
		for i, d := range list {
			if set>>i&1 == 0 {
				continue
			}
			d.apply(&s)
			if want == api.OK {
				want = d.want
			}
		}
		do(s, want)
	}
}

func TestP20_1TheFirstErrorCounts(t *testing.T) {
	forSpoiled(func(s api.Script, want api.Errno) {
		if got := script.Check(s); got != want {
			t.Fatalf("Check(%+v, %d operations and %d) = %d, expected %d", s.Config, len(s.Ops[0]), len(s.Ops[1]), got, want)
		}
	})
}

// A sample is a script with its text.
type sample struct {
	script api.Script
	text   string
}

// samples returns scripts in which every form of lines occurs.
func samples() []sample {
	begun := api.Config{Capacities: []int{16, 0, 3}, Starts: []uint64{1<<63 - 1, 0, 1 << 62}, Threads: 1}
	return []sample{
		{example(), exampleText},
		{alone(), "thread\n"},
		{picked(3), "thread\nthread\nthread\n"},
		{picked(1, 0), "thread\npicks 0\n"},
		{picked(2, 1, 0, -1<<40, -7), "thread\nthread\npicks 1 0 -1099511627776 -7\n"},
		{api.Script{Config: begun, Ops: [][]api.Op{nil}}, "channel 16 9223372036854775807\nchannel 0 0\nchannel 3 4611686018427387904\nthread\n"},
		{alone(send(0, 0), send(7, math.MaxUint64), send(-1, 10)), "thread\n  send 0 0\n  send 7 18446744073709551615\n  send -1 10\n"},
		{alone(try(send(2, 9)), until(0, send(2, 9)), until(1<<40, send(2, 9))), "thread\n  send 2 9 try\n  send 2 9 until 0\n  send 2 9 until 1099511627776\n"},
		{alone(on(api.Recv, 0), on(api.Recv, -1), try(on(api.Recv, 7)), until(12, on(api.Recv, 1))), "thread\n  recv 0\n  recv -1\n  recv 7 try\n  recv 1 until 12\n"},
		{alone(on(api.Close, 0), on(api.Len, 7), on(api.Cap, -1)), "thread\n  close 0\n  len 7\n  cap -1\n"},
		{alone(choice(nil), try(choice(nil)), until(3, choice(nil))), "thread\n  select\n  select try\n  select until 3\n"},
		{alone(choice([]int{0}, takes(4)), try(choice([]int{0}, gives(4, 6)))), "thread\n  select recv 4 draws 0\n  select send 4 6 draws 0 try\n"},
		{alone(until(0, choice([]int{0, 1, 0}, gives(-1, math.MaxUint64), takes(-1), gives(0, 0)))), "thread\n  select send -1 18446744073709551615 recv -1 send 0 0 draws 0 1 0 until 0\n"},
		{alone(choice([]int{0, 1, 2, 3, 4, 5}, takes(0), takes(1), takes(2), takes(3), takes(4), takes(5))), "thread\n  select recv 0 recv 1 recv 2 recv 3 recv 4 recv 5 draws 0 1 2 3 4 5\n"},
		{api.Script{Config: config(3), Ops: [][]api.Op{{send(0, 1)}, {}, {on(api.Recv, 0), send(0, 2)}}, Picks: []int{2}}, "thread\n  send 0 1\nthread\nthread\n  recv 0\n  send 0 2\npicks 2\n"},
	}
}

func TestP20_2Texts(t *testing.T) {
	for i, c := range samples() {
		if got, e := script.Print(c.script); got != c.text || e != api.OK {
			t.Errorf("case %d: Print = %q, %d, expected %q", i, got, e, c.text)
		}
	}
}

func TestP20_2EveryKindAndMode(t *testing.T) {
	words := [...]string{api.Send: "send 3 8", api.Recv: "recv 3", api.Close: "close 3", api.Select: "select", api.Len: "len 3", api.Cap: "cap 3"}
	for kind := api.Send; kind <= api.Cap; kind++ {
		for mode, end := range []string{"", " try", " until 44"} {
			op := api.Op{Kind: kind, Mode: mode}
			if kind != api.Select {
				op.Channel = 3
			}
			if kind == api.Send {
				op.Value = 8
			}
			if mode == api.Timed {
				op.Deadline = 44
			}
			want, errno := "thread\n  "+words[kind]+end+"\n", cases.Check(op)
			if errno != api.OK {
				want = ""
			}
			if got, e := script.Print(alone(op)); got != want || e != errno {
				t.Errorf("Print of %+v = %q, %d, expected %q, %d", op, got, e, want, errno)
			}
		}
	}
}

func TestP20_2TooLong(t *testing.T) {
	// The text has 13 bytes, two more for each pick of the thread 0, and three for each pick -1.
	for _, c := range []struct {
		zeros, ones int
		want        api.Errno
	}{
		{3992, 0, api.OK},
		{3992, 1, api.OK},
		{3993, 0, api.OK},
		{3994, 0, api.ErrTooLong},
		{3991, 2, api.ErrTooLong},
		{4000, 0, api.ErrTooLong},
		{0, 4000, api.ErrTooLong},
	} {
		s := picked(1, slices.Concat(slices.Repeat([]int{-1}, c.ones), make([]int, c.zeros))...)
		want := "thread\npicks" + strings.Repeat(" -1", c.ones) + strings.Repeat(" 0", c.zeros) + "\n"
		if fits := len(want) <= 8000; fits != (c.want == api.OK) {
			t.Fatalf("%d and %d picks have %d bytes", c.zeros, c.ones, len(want))
		}
		if c.want != api.OK {
			want = ""
		}
		if got, e := script.Print(s); got != want || e != c.want {
			t.Errorf("Print with %d and %d picks = %d bytes, %d, expected %d bytes, %d", c.zeros, c.ones, len(got), e, len(want), c.want)
		}
	}
	if got, e := script.Print(largest()); got != "" || e != api.ErrTooLong {
		t.Errorf("Print of the largest script = %d bytes, %d", len(got), e)
	}
}

func TestP20_2ErrorsOfCheck(t *testing.T) {
	forSpoiled(func(s api.Script, want api.Errno) {
		if got, e := script.Print(s); e != want || (got == "") != (want != api.OK) {
			t.Fatalf("Print = %q, %d, expected the error %d", got, e, want)
		}
	})
	// The error of Check comes first, however long the text is.
	s := largest()
	s.Picks[3999] = 8
	if got, e := script.Print(s); got != "" || e != api.ErrRange {
		t.Errorf("Print of a long invalid script = %q, %d", got, e)
	}
}

// checkParse compares the results of Parse with those that are expected.
func checkParse(t *testing.T, text string, want api.Script, line int, errno api.Errno) {
	t.Helper()
	got, at, e := script.Parse(text)
	if !same(got, want) || at != line || e != errno {
		t.Errorf("Parse(%q) = %+v, %d, %d, expected %+v, %d, %d", text, got, at, e, want, line, errno)
	}
}

// checkSyntax expects that a line is the first one of no form.
func checkSyntax(t *testing.T, text string, line int) {
	t.Helper()
	checkParse(t, text, api.Script{}, line, api.ErrSyntax)
}

func TestP20_3Scripts(t *testing.T) {
	for _, c := range samples() {
		checkParse(t, c.text, c.script, 0, api.OK)
	}
}

func TestP20_3LinesOfNoForm(t *testing.T) {
	for _, line := range []string{
		"", " ", "  ", "   ", "\t", "\r", "\x00", "x", "é", "\xff", "#", "-", "0", "0 0",
		"channel", "channel ", "channel 0", "channel 0 ", "channel 0 0 ", "channel 0 0 0", "channel  0 0", "channel 0  0", " channel 0 0", "  channel 0 0", "Channel 0 0", "channel0 0", "channel 0 0\r", "channel\t0 0", "channel a 0", "channel 0 a", "channel 0 -1", "channel try 0", "channels 0 0",
		"thread ", " thread", "\rthread", "\ufeffthread", "  thread", "thread 0", "thread thread", "Thread", "threads", "thread\r", "hread", "threa",
		"send 0 5", " send 0 5", "   send 0 5", "\tsend 0 5", "    send 0 5", "  send", "  send ", "  send 0", "  send 0 ", "  send 0 5 ", "  send  0 5", "  send 0  5", "  send 0 5 0", "  send 0 5  try", "  send 0 5 try ", "  send 0 5 tr", "  send 0 5 Try", "  send 0 5 try try", "  send 0 try", "  send try", "  send 0 5 until", "  send 0 5 until ", "  send 0 5 until  1", "  send 0 5 until 1 ", "  send 0 5 until 1 2", "  send 0 5 until try", "  send 0 5 until 1 try", "  send 0 5 try until 1", "  send 0 5 try 1", "  try send 0 5", "  send 0 -5", "  send a 5", "  send 0 a", "  SEND 0 5", "  sen 0 5", "  send0 5", "  send 0 5 draws 0", "  send 0 5 draws", "  send 0 5\r", "  send 0 5 recv 0", "  send 0 5 blocking",
		"recv 0", "  recv", "  recv ", "  recv 0 ", "  recv 0 0", "  recv 0 5 try", "  recv try", "  recv 0 try 1", "  recv 0 until", "  recv 0 until a", "  receive 0", "  recv -", "  recv 0 draws 0",
		"close 0", "  close", "  close ", "  close 0 ", "  close 0 0", "  close try", "  closed 0", "  len", "  len 0 0", "  len a", "  len 0 ", "  cap", "  cap  0", "  cap 0 1", "  cap 0 draws 0",
		"select", "  select ", "  Select", "  select  try", "  select draws", "  select draws ", "  select draws 0", "  select recv", "  select recv 0", "  select recv 0 draws", "  select recv 0 draws ", "  select recv 0 draws 0 ", "  select recv 0 draws 0 0", "  select recv 0 draws 0 1 try", "  select recv 0 draws try", "  select recv 0 try", "  select recv 0 until 5", "  select recv 0 try draws 0", "  select recv 0 0 draws 0", "  select recv 0 draws  0", "  select  recv 0 draws 0", "  select recv 0  draws 0", "  select recv 0 recv 1 draws 0", "  select recv 0 recv 1 draws 0 0 0", "  select recv 0 draw 0", "  select draws 0 recv 0", "  select recv 0 draws 0 recv 1 draws 0", "  select recv 0 draws 0 recv 1", "  select send 0 draws 0", "  select send 0 1", "  select send 0 -1 draws 0", "  select close 0 draws 0", "  select len 0 draws 0", "  select select draws 0", "  select 0", "  select try try", "  select until", "  select try draws 0", "  select recv 0 draws a", "  select recv 0 draws 0 until", "  select recv 0 draws 0 draws 0", "  select try 0",
		"picks", "picks ", "picks  0", "picks 0 ", "picks 0  0", " picks 0", "  picks 0", "picks a", "picks 0 a 0", "Picks 0", "pick 0", "picks0", "picks 0\r", "picks 0 try", "picks -", "picks 0,0", "picks 0 picks 0",
	} {
		checkSyntax(t, line+"\n", 1)
		checkSyntax(t, "channel 1 0\n"+line+"\nthread\n", 2)
		checkSyntax(t, "thread\n"+line+"\n", 2)
		checkSyntax(t, "thread\n"+line+"\nx\n", 2)
		checkSyntax(t, "channel 1 0\nthread\n  recv 0\n"+line+"\n  recv 0\npicks 0\n", 4)
		checkSyntax(t, "thread\npicks 0\n"+line+"\n", 3)
	}
}

func TestP20_3LinesWithoutALineFeed(t *testing.T) {
	checkSyntax(t, "x", 1)
	checkSyntax(t, "\nthread", 1)
	for _, c := range samples() {
		for end := range len(c.text) {
			text := c.text[:end]
			if text == "" || strings.HasSuffix(text, "\n") {
				continue
			}
			got, line, e := script.Parse(text)
			if want := strings.Count(text, "\n") + 1; !same(got, api.Script{}) || line != want || e != api.ErrSyntax {
				t.Errorf("Parse(%q) = %+v, %d, %d, expected line %d", text, got, line, e, want)
			}
		}
		checkSyntax(t, c.text+"\n", strings.Count(c.text, "\n")+1)
	}
}

// numberLines returns lines with a place for a number, which is from -2^40 to 2^40.
var numberLines = []string{
	"channel # 0", "  send # 5", "  send # 5 try", "  send 0 5 until #", "  recv #", "  recv 0 until #", "  close #", "  len #", "  cap #", "  select until #",
	"  select recv # draws 0", "  select send # 0 draws 0", "  select recv 0 draws #", "  select recv 0 recv # draws 0 1", "  select recv 0 recv 0 draws # 0", "  select recv 0 recv 0 draws 0 # try", "  select recv 0 draws 0 until #",
	"picks #", "picks # 0", "picks 0 # 0",
}

// valueLines are lines with a place for a number from 0 to 2^64 - 1.
var valueLines = []string{"channel 0 #", "  send 0 #", "  send 0 # until 7", "  select send 0 # draws 0", "  select recv 0 send 0 # recv 0 draws 0 1 0"}

// Words that are no numbers in the form of the chapter, wherever they stand.
var noNumbers = []string{
	"", "-", "+", "--1", "+0", "+5", "-0", "00", "01", "007", "-00", "-01", "0x1", "0b1", "0o1", "1_000", "1.0", "1e3", "1.", ".1", "0.", "a", "1a", "a1", "٣", "1,000", "−1", "1-", "1\t", "\t1", "1\r", "true", "nil", "try", "1\x00",
	"18446744073709551616", "18446744073709551617", "36893488147419103232", "100000000000000000000", "-9223372036854775808", "-9223372036854775809", "-18446744073709551616", "-1099511627777", "99999999999999999999999999999999999999999999",
}

// wrap returns a text with the line at a place where it may stand, and the number of this line.
func wrap(line string) (string, int) {
	switch {
	case strings.HasPrefix(line, "channel"):
		return line + "\nthread\n", 1
	case strings.HasPrefix(line, "  "):
		return "thread\n  recv 0\n" + line + "\n", 3
	}
	return "thread\n" + line + "\n", 2
}

func TestP20_3WordsThatAreNoNumbers(t *testing.T) {
	for _, form := range append(slices.Clone(numberLines), valueLines...) {
		for _, word := range noNumbers {
			text, line := wrap(strings.Replace(form, "#", word, 1))
			checkSyntax(t, text, line)
		}
	}
	for _, form := range numberLines {
		for _, word := range []string{"1099511627777", "1099511627778", "9223372036854775807", "9223372036854775808", "18446744073709551615", "-1099511627777", "-1099511627778"} {
			text, line := wrap(strings.Replace(form, "#", word, 1))
			checkSyntax(t, text, line)
		}
	}
	for _, form := range valueLines {
		for _, word := range []string{"-1", "-5", "-1099511627776"} {
			text, line := wrap(strings.Replace(form, "#", word, 1))
			checkSyntax(t, text, line)
		}
	}
}

func TestP20_3NumbersOfTheForm(t *testing.T) {
	parsedAs := func(form string, words ...string) {
		t.Helper()
		for _, word := range words {
			text, _ := wrap(strings.Replace(form, "#", word, 1))
			if _, line, e := script.Parse(text); e == api.ErrSyntax || e == api.ErrTooLong || line != 0 {
				t.Errorf("Parse(%q) = %d, %d", text, line, e)
			}
		}
	}
	for _, form := range numberLines {
		parsedAs(form, "0", "1", "9", "10", "16", "17", "1000", "1099511627775", "1099511627776", "-1", "-9", "-10", "-1099511627775", "-1099511627776")
	}
	for _, form := range valueLines {
		parsedAs(form, "0", "1", "9", "10", "1099511627776", "1099511627777", "9223372036854775807", "9223372036854775808", "18446744073709551615")
	}
}

func TestP20_3ErrorsOfCheck(t *testing.T) {
	for _, c := range []struct {
		text string
		want api.Errno
	}{
		{"", api.ErrRange},
		{"channel 1 0\n", api.ErrRange},
		{"channel 1 0\nchannel 2 5\n", api.ErrRange},
		{"picks 0\n", api.ErrRange},
		{"picks -1\n", api.ErrRange},
		{"channel 1 0\npicks 0\n", api.ErrRange},
		{strings.Repeat("thread\n", 9), api.ErrRange},
		{strings.Repeat("channel 1 0\n", 9), api.ErrTooMany},
		{strings.Repeat("channel 1 0\n", 9) + "thread\n", api.ErrTooMany},
		{"channel 17 0\nthread\n", api.ErrRange},
		{"channel -1 0\nthread\n", api.ErrRange},
		{"channel 1099511627776 0\nthread\n", api.ErrRange},
		{"channel 1 9223372036854775808\nthread\n", api.ErrRange},
		{"channel 1 18446744073709551615\nthread\n", api.ErrRange},
		{"thread\n" + strings.Repeat("  recv 0\n", 17), api.ErrTooMany},
		{"thread\nthread\n" + strings.Repeat("  recv 0\n", 17), api.ErrTooMany},
		{"thread\n  send 8 0\n", api.ErrRange},
		{"thread\n  send -2 0\n", api.ErrRange},
		{"thread\n  recv 8\n", api.ErrRange},
		{"thread\n  close 1099511627776\n", api.ErrRange},
		{"thread\n  len -1099511627776\n", api.ErrRange},
		{"thread\n  cap -2\n", api.ErrRange},
		{"thread\n  recv 0 until -1\n", api.ErrRange},
		{"thread\n  select until -1099511627776\n", api.ErrRange},
		{"thread\n  select recv 8 draws 0\n", api.ErrRange},
		{"thread\n  select recv 0 send -2 0 draws 0 0\n", api.ErrRange},
		{"thread\n  select recv 0 draws 1\n", api.ErrRange},
		{"thread\n  select recv 0 recv 0 draws 0 2\n", api.ErrRange},
		{"thread\n  select recv 0 recv 0 draws 0 -1\n", api.ErrRange},
		{"thread\n  select" + strings.Repeat(" recv 0", 7) + " draws" + strings.Repeat(" 0", 7) + "\n", api.ErrTooMany},
		{"thread\n  select" + strings.Repeat(" send 0 0", 500) + " draws" + strings.Repeat(" 0", 500) + "\n", api.ErrTooMany},
		{"thread\n  close 0 try\n", api.ErrShape},
		{"thread\n  len 0 until 5\n", api.ErrShape},
		{"thread\n  cap 0 until 0\n", api.ErrShape},
		{"thread\npicks 1\n", api.ErrRange},
		{"thread\nthread\npicks 0 1 2\n", api.ErrRange},
		{"thread\npicks 1099511627776\n", api.ErrRange},
		// The first error of Check counts, and a line of no form comes ahead of all of them.
		{"channel 17 0\n" + strings.Repeat("thread\n", 9), api.ErrRange},
		{"thread\n  close 0 try\n  send 8 0\npicks 7\n", api.ErrShape},
		{"thread\n  send 8 0\n  close 0 try\npicks 7\n", api.ErrRange},
		{"thread\n  close 0 try\nthread\n" + strings.Repeat("  recv 0\n", 17), api.ErrShape},
	} {
		checkParse(t, c.text, api.Script{}, 0, c.want)
		checkSyntax(t, c.text+"x\n", strings.Count(c.text, "\n")+1)
	}
}

func TestP20_3Places(t *testing.T) {
	lines := []string{"channel 1 0\n", "thread\n", "  recv 0\n", "picks 0\n", "thread \n"}
	for length := range 7 {
		total := 1
		for range length {
			total *= len(lines)
		}
		for number := range total {
			text, wrong := "", 0
			var seen [5]int
			for at := range length {
				kind := number % len(lines)
				number /= len(lines)
				text += lines[kind]
				misplaced := seen[3] > 0 || kind == 0 && seen[1] > 0 || kind == 2 && seen[1] == 0 || kind == 4
				if misplaced && wrong == 0 {
					wrong = at + 1
				}
				seen[kind]++
			}
			want := api.OK
			switch {
			case wrong > 0:
				want = api.ErrSyntax
			case seen[1] == 0:
				want = api.ErrRange
			}
			got, line, e := script.Parse(text)
			if line != wrong || e != want || got.Config.Threads != 0 && e != api.OK {
				t.Fatalf("Parse(%q) = %+v, %d, %d, expected %d, %d", text, got, line, e, wrong, want)
			}
			if e == api.OK && (len(got.Config.Capacities) != seen[0] || len(got.Ops) != seen[1] || len(got.Picks) != seen[3]) {
				t.Fatalf("Parse(%q) = %+v", text, got)
			}
		}
	}
}

func TestP20_3TooLong(t *testing.T) {
	zeros := func(n int) string { return strings.Repeat(" 0", n) }
	checkParse(t, "thread\npicks -1"+zeros(3992)+"\n", picked(1, append([]int{-1}, make([]int, 3992)...)...), 0, api.OK)
	for _, text := range []string{
		"thread\npicks 0" + zeros(3993) + "\n",
		"thread\npicks" + zeros(4001) + "\n",
		strings.Repeat("x", 8001),
		strings.Repeat("\n", 8001),
		strings.Repeat("thread\n", 1143),
		strings.Repeat("é", 4001),
		strings.Repeat(" ", 1<<20),
	} {
		checkParse(t, text, api.Script{}, 0, api.ErrTooLong)
	}
	checkSyntax(t, strings.Repeat("x", 8000), 1)
	checkSyntax(t, strings.Repeat("\n", 8000), 1)
	checkSyntax(t, strings.Repeat("é", 4000), 1)
	checkSyntax(t, strings.Repeat("thread\n", 1142)+"thread", 1143)
	checkParse(t, strings.Repeat("thread\n", 1142), api.Script{}, 0, api.ErrRange)
}

// edited returns a text with a change: of a byte, a word or a line.
func edited(g *generator, text string) string {
	separator := one(g, "", " ", "\n")
	pieces := strings.Split(text, separator)
	if len(pieces) == 0 {
		return text
	}
	at := g.below(len(pieces))
	switch g.below(6) {
	case 0:
		pieces = slices.Delete(pieces, at, at+1)
	case 1:
		pieces = slices.Insert(pieces, at, pieces[g.below(len(pieces))])
	case 2:
		other := g.below(len(pieces))
		pieces[at], pieces[other] = pieces[other], pieces[at]
	case 3:
		pieces[at] += one(g, " try", " until 5", " 0", " draws 0", " ")
	case 4:
		pieces[at] = one(g, "0", "-1", "5", "17", "send", "recv", "close", "select", "len", "cap", "draws", "try", "until", "until 3", "recv 0", "1099511627777", "9223372036854775808", "18446744073709551616", "-1099511627777")
	default:
		pieces[at] = one(g, "", " ", "\n", "-", "0", "7", "x", "thread", "thread\n", "picks 0", "channel 0 0", "channel 0 0\n", "  cap 0", "  select", "  close 0 try\n")
	}
	return strings.Join(pieces, separator)
}

func TestP20_3EditedTexts(t *testing.T) {
	g := generator(203)
	counts := make(map[api.Errno]int)
	for range 20000 {
		text := printed(g.script(2, 3, 4, 5))
		for range 1 + g.below(3) {
			text = edited(&g, text)
		}
		want, line, errno := parsed(text)
		counts[errno]++
		if checkParse(t, text, want, line, errno); t.Failed() {
			return
		}
	}
	for _, errno := range []api.Errno{api.OK, api.ErrSyntax, api.ErrRange, api.ErrShape} {
		if counts[errno] < 20 {
			t.Errorf("only %d texts lead to %d", counts[errno], errno)
		}
	}
}

func TestP20_3EveryChangeOfAByte(t *testing.T) {
	for _, c := range samples() {
		for at := range len(c.text) {
			for b := range 256 {
				text := c.text[:at] + string([]byte{byte(b)}) + c.text[at+1:]
				want, line, errno := parsed(text)
				if checkParse(t, text, want, line, errno); t.Failed() {
					return
				}
			}
		}
	}
}

func TestP20_4ScriptsThereAndBack(t *testing.T) {
	g := generator(204)
	for n := range 3000 {
		s := g.script(8, 8, one(&g, 0, 2, 16), one(&g, 0, 3, 1000))
		want := printed(s)
		text, e := script.Print(s)
		if len(want) > 8000 {
			if text != "" || e != api.ErrTooLong {
				t.Fatalf("Print(%+v) = %d bytes, %d", s, len(text), e)
			}
			continue
		}
		if text != want || e != api.OK {
			t.Fatalf("script %d: Print(%+v) = %q, %d, expected %q", n, s, text, e, want)
		}
		if back, line, e := script.Parse(text); !same(back, s) || line != 0 || e != api.OK {
			t.Fatalf("script %d: Parse(%q) = %+v, %d, %d", n, text, back, line, e)
		}
	}
}

func TestP20_4TextsThereAndBack(t *testing.T) {
	g := generator(40)
	valid := 0
	for range 20000 {
		text := edited(&g, printed(g.script(2, 2, 3, 3)))
		s, _, e := script.Parse(text)
		if e != api.OK {
			continue
		}
		valid++
		if back, e := script.Print(s); back != text || e != api.OK {
			t.Fatalf("Print(Parse(%q)) = %q, %d", text, back, e)
		}
	}
	if valid < 1000 {
		t.Errorf("only %d texts are valid", valid)
	}
}

// spare returns a copy of a list with room behind it, where an element stands.
func spare[T any](list []T, behind T) []T {
	return append(slices.Clone(list), behind)[:len(list)]
}

func TestArgumentsStayAsTheyAre(t *testing.T) {
	roomy := func() api.Script {
		s := example()
		s.Config.Capacities, s.Config.Starts = spare(s.Config.Capacities, 77), spare(s.Config.Starts, 77)
		s.Ops[0][1].Cases, s.Ops[0][1].Draws = spare(s.Ops[0][1].Cases, gives(7, 7)), spare(s.Ops[0][1].Draws, 77)
		s.Ops[0] = spare(s.Ops[0], send(7, 7))
		s.Ops, s.Picks = spare(s.Ops, nil), spare(s.Picks, 77)
		return s
	}
	// full returns everything in a script, with what stands behind its lists.
	full := func(s api.Script) string {
		ops := s.Ops[0]
		return fmt.Sprint(s.Config.Capacities[:2], s.Config.Starts[:2], s.Config.Threads, s.Ops[:2], ops[:3], ops[1].Cases[:3], ops[1].Draws[:3], s.Picks[:5])
	}
	s := roomy()
	for range 2 {
		script.Check(s)
		script.Print(s)
	}
	if got, want := full(s), full(roomy()); got != want {
		t.Errorf("the script is %s, and was %s", got, want)
	}
}

func TestListsOfAResultShareNoMemory(t *testing.T) {
	const text = "channel 1 2\nchannel 3 4\nthread\n  select recv 0 recv 1 draws 0 1\n  select recv 2 draws 0\nthread\n  recv 0\npicks 0 1\n"
	want, _, _ := parsed(text)
	got, _, _ := script.Parse(text)
	// Whatever is added to a list must not stand in another one.
	_ = append(got.Config.Capacities, 9, 9, 9)
	_ = append(got.Picks, 9, 9, 9)
	_ = append(got.Ops, []api.Op{{}}, []api.Op{{}})
	for _, ops := range got.Ops {
		_ = append(ops, api.Op{}, api.Op{}, api.Op{})
		for _, op := range ops {
			_ = append(op.Cases, gives(9, 9), gives(9, 9))
			_ = append(op.Draws, 9, 9, 9)
		}
	}
	if !same(got, want) {
		t.Errorf("the script is %+v, and was %+v", got, want)
	}
}
