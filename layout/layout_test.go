package layout_test

import (
	"fmt"
	"math"
	"slices"
	"testing"

	"chanfabric/api"
	"chanfabric/layout"
)

const last = 1<<63 - 1 // the greatest sequence number

// slotsOf returns the number of slots for each capacity, as chapter 1 gives it.
func slotsOf(capacity int) int {
	return []int{1, 2, 2, 4, 4, 8, 8, 8, 8, 16, 16, 16, 16, 16, 16, 16, 16}[capacity]
}

// starting returns a configuration of two threads whose rings all start at the same number.
func starting(start uint64, capacities ...int) api.Config {
	return api.Config{Capacities: capacities, Starts: slices.Repeat([]uint64{start}, len(capacities)), Threads: 2}
}

// withThreads returns a configuration with another number of threads.
func withThreads(c api.Config, threads int) api.Config {
	c.Threads = threads
	return c
}

// samples returns valid configurations.
func samples() []api.Config {
	list := []api.Config{
		{Threads: 1},
		{Capacities: []int{}, Starts: []uint64{}, Threads: 8},
		starting(0, 2, 0),
		starting(0, 0, 2),
		starting(last, 1, 1, 0, 0, 3),
		withThreads(starting(0, 0, 0, 0, 0, 0, 0, 0, 0), 8),
		withThreads(starting(last, 16, 16, 16, 16, 16, 16, 16, 16), 8),
		{Capacities: []int{5, 0, 16, 1, 9, 2, 4, 8}, Starts: []uint64{0, 1, last, 1 << 62, 7, last - 3, 1<<62 - 1, 12345678901}, Threads: 3},
		{Capacities: []int{0, 1, 2, 3}, Starts: []uint64{3, 2, 1, 0}, Threads: 7},
	}
	for capacity := range api.MaxCapacity + 1 {
		list = append(list, starting(uint64(capacity*3), capacity), starting(last-uint64(capacity/2), capacity, 0, capacity))
	}
	return list
}

func TestP5_1ValidConfigurations(t *testing.T) {
	for _, c := range samples() {
		if got := layout.Check(c); got != api.OK {
			t.Errorf("Check(%+v) = %d", c, got)
		}
	}
	for threads := 1; threads <= api.MaxThreads; threads++ {
		for channels := range api.MaxChannels + 1 {
			c := withThreads(starting(5, make([]int, channels)...), threads)
			if got := layout.Check(c); got != api.OK {
				t.Errorf("Check(%+v) = %d", c, got)
			}
		}
	}
}

func TestP5_1Errors(t *testing.T) {
	for i, c := range []struct {
		config api.Config
		want   api.Errno
	}{
		{api.Config{Capacities: make([]int, 9), Starts: make([]uint64, 9), Threads: 1}, api.ErrTooMany},
		{api.Config{Capacities: make([]int, 100000), Starts: make([]uint64, 100000), Threads: 1}, api.ErrTooMany},
		{api.Config{Capacities: make([]int, 8), Starts: make([]uint64, 9), Threads: 1}, api.ErrShape},
		{api.Config{Capacities: make([]int, 8), Starts: make([]uint64, 7), Threads: 1}, api.ErrShape},
		{api.Config{Capacities: make([]int, 1), Threads: 1}, api.ErrShape},
		{api.Config{Starts: make([]uint64, 1), Threads: 1}, api.ErrShape},
		{api.Config{Starts: make([]uint64, 100000), Threads: 1}, api.ErrShape},
		{starting(0, 17), api.ErrRange},
		{starting(0, -1), api.ErrRange},
		{starting(0, math.MaxInt), api.ErrRange},
		{starting(0, math.MinInt), api.ErrRange},
		{starting(0, 1<<32), api.ErrRange},
		{starting(0, 16, 0, 17), api.ErrRange},
		{starting(0, 16, -1, 0), api.ErrRange},
		{starting(1<<63, 0), api.ErrRange},
		{starting(math.MaxUint64, 2), api.ErrRange},
		{api.Config{Capacities: make([]int, 2), Starts: []uint64{last, last + 1}, Threads: 1}, api.ErrRange},
		{api.Config{Capacities: make([]int, 2), Starts: []uint64{last + 1, last}, Threads: 1}, api.ErrRange},
		{api.Config{}, api.ErrRange},
		{withThreads(starting(0, 2, 0), 0), api.ErrRange},
		{withThreads(starting(0, 2, 0), -1), api.ErrRange},
		{withThreads(starting(0, 2, 0), 9), api.ErrRange},
		{withThreads(starting(0, 2, 0), math.MaxInt), api.ErrRange},
		{withThreads(starting(0, 2, 0), math.MinInt), api.ErrRange},
		{withThreads(starting(0, 2, 0), 1<<32+1), api.ErrRange},
	} {
		if got := layout.Check(c.config); got != c.want {
			t.Errorf("case %d: Check = %d, expected %d", i, got, c.want)
		}
	}
}

// flawed returns a configuration with every error whose bit is set in flaws, in the order of P5.1.
func flawed(flaws int) api.Config {
	c := starting(0, 2, 0)
	if flaws&1 != 0 {
		c = starting(0, make([]int, 9)...)
	}
	if flaws&4 != 0 {
		c.Capacities[1] = 17
	}
	if flaws&8 != 0 {
		c.Starts[1] = 1 << 63
	}
	if flaws&2 != 0 {
		c.Starts = append(c.Starts, 0)
	}
	if flaws&16 != 0 {
		c.Threads = 0
	}
	return c
}

func TestP5_1TheFirstErrorThatApplies(t *testing.T) {
	for flaws := range 32 {
		want := api.OK
		switch {
		case flaws&1 != 0:
			want = api.ErrTooMany
		case flaws&2 != 0:
			want = api.ErrShape
		case flaws != 0:
			want = api.ErrRange
		}
		if got := layout.Check(flawed(flaws)); got != want {
			t.Errorf("Check(%+v) = %d, expected %d", flawed(flaws), got, want)
		}
	}
}

// place is a word, with the number that a function returns for it.
type place struct {
	name   string
	number int
}

// places returns all words of a configuration, in the order of P5.2.
func places(c api.Config) []place {
	var list []place
	add := func(number int, name string, arguments ...any) {
		list = append(list, place{fmt.Sprint(name, arguments), number})
	}
	for channel, capacity := range c.Capacities {
		add(layout.Tail(c, channel), "Tail", channel)
		add(layout.Head(c, channel), "Head", channel)
		add(layout.Lock(c, channel), "Lock", channel)
		add(layout.Receivers(c, channel), "Receivers", channel)
		add(layout.Senders(c, channel), "Senders", channel)
		for slot := range slotsOf(capacity) {
			add(layout.SlotSeq(c, channel, uint64(slot)), "SlotSeq", channel, slot)
			add(layout.SlotValue(c, channel, uint64(slot)), "SlotValue", channel, slot)
		}
	}
	for thread := range c.Threads {
		add(layout.Claim(c, thread), "Claim", thread)
		add(layout.Flag(c, thread), "Flag", thread)
		add(layout.Kind(c, thread), "Kind", thread)
		add(layout.Case(c, thread), "Case", thread)
		add(layout.Value(c, thread), "Value", thread)
		for index := range api.MaxCases {
			add(layout.Out(c, thread, index), "Out", thread, index)
		}
	}
	return list
}

func TestP5_2TheOrderOfTheWords(t *testing.T) {
	for _, c := range samples() {
		list := places(c)
		for want, p := range list {
			if p.number != want {
				t.Errorf("%+v: %s is %d, expected %d", c, p.name, p.number, want)
			}
		}
		if got := layout.Words(c); got != len(list) {
			t.Errorf("%+v: Words is %d, expected %d", c, got, len(list))
		}
	}
}

func TestP5_2Numbers(t *testing.T) {
	c := starting(0, 2, 0)
	for _, p := range []struct {
		name      string
		got, want int
	}{
		{"Tail of channel 0", layout.Tail(c, 0), 0},
		{"Head of channel 0", layout.Head(c, 0), 1},
		{"Lock of channel 0", layout.Lock(c, 0), 2},
		{"Receivers of channel 0", layout.Receivers(c, 0), 3},
		{"Senders of channel 0", layout.Senders(c, 0), 4},
		{"SlotSeq 0 of channel 0", layout.SlotSeq(c, 0, 0), 5},
		{"SlotValue 0 of channel 0", layout.SlotValue(c, 0, 0), 6},
		{"SlotSeq 1 of channel 0", layout.SlotSeq(c, 0, 1), 7},
		{"SlotValue 1 of channel 0", layout.SlotValue(c, 0, 1), 8},
		{"Tail of channel 1", layout.Tail(c, 1), 9},
		{"Senders of channel 1", layout.Senders(c, 1), 13},
		{"SlotSeq of channel 1", layout.SlotSeq(c, 1, 0), 14},
		{"SlotValue of channel 1", layout.SlotValue(c, 1, 0), 15},
		{"Claim of thread 0", layout.Claim(c, 0), 16},
		{"Flag of thread 0", layout.Flag(c, 0), 17},
		{"Kind of thread 0", layout.Kind(c, 0), 18},
		{"Case of thread 0", layout.Case(c, 0), 19},
		{"Value of thread 0", layout.Value(c, 0), 20},
		{"Out 0 of thread 0", layout.Out(c, 0, 0), 21},
		{"Out 5 of thread 0", layout.Out(c, 0, 5), 26},
		{"Claim of thread 1", layout.Claim(c, 1), 27},
		{"Out 5 of thread 1", layout.Out(c, 1, 5), 37},
		{"Words", layout.Words(c), 38},
		{"Words of one thread alone", layout.Words(api.Config{Threads: 1}), 11},
		{"Claim of thread 7 without channels", layout.Claim(api.Config{Threads: 8}, 7), 77},
	} {
		if p.got != p.want {
			t.Errorf("%s is %d, expected %d", p.name, p.got, p.want)
		}
	}
}

func TestP5_2SlotsOfSequenceNumbers(t *testing.T) {
	for _, c := range samples() {
		for channel, capacity := range c.Capacities {
			size := uint64(slotsOf(capacity))
			first := layout.Tail(c, channel) + 5
			for _, edge := range []uint64{size, 1 << 32, 1 << 62, last, 1 << 63, math.MaxUint64} {
				for n := range 2*size + 1 {
					seq := edge - n
					want := first + 2*int(seq%(1<<63)%size)
					if got := layout.SlotSeq(c, channel, seq); got != want {
						t.Errorf("%+v: SlotSeq(%d, %d) = %d, expected %d", c, channel, seq, got, want)
					}
					if got := layout.SlotValue(c, channel, seq); got != want+1 {
						t.Errorf("%+v: SlotValue(%d, %d) = %d, expected %d", c, channel, seq, got, want+1)
					}
				}
			}
		}
	}
}

func TestP5_2Lists(t *testing.T) {
	for _, c := range samples() {
		for channel := range c.Capacities {
			if got := layout.ReceiverList(c, channel); got != 2*channel {
				t.Errorf("%+v: ReceiverList(%d) = %d", c, channel, got)
			}
			if got := layout.SenderList(c, channel); got != 2*channel+1 {
				t.Errorf("%+v: SenderList(%d) = %d", c, channel, got)
			}
		}
	}
}

// ringAt returns the sequence words of a ring of size slots that starts at a sequence number, by going through the slots one by one.
func ringAt(start uint64, size int) []uint64 {
	ring := make([]uint64, size)
	slot := int(start % uint64(size))
	for range size {
		ring[slot] = start
		slot, start = slot+1, start+1
		if slot == size {
			slot = 0
		}
		if start == 1<<63 {
			start = 0
		}
	}
	return ring
}

// firstWords returns the words with which a configuration begins, one after another.
func firstWords(c api.Config) []uint64 {
	var words []uint64
	for channel, capacity := range c.Capacities {
		start := c.Starts[channel]
		words = append(words, 2*start, start, 0, 0, 0)
		for _, seq := range ringAt(start, slotsOf(capacity)) {
			words = append(words, seq, 0)
		}
	}
	return append(words, make([]uint64, 11*c.Threads)...)
}

func TestP5_3New(t *testing.T) {
	for _, c := range samples() {
		m, errno := layout.New(c)
		if errno != api.OK || m.Tick != 0 {
			t.Errorf("New(%+v) returns the time %d and %d", c, m.Tick, errno)
		}
		if want := firstWords(c); !slices.Equal(m.Words, want) {
			t.Errorf("New(%+v) returns the words %v, expected %v", c, m.Words, want)
		}
		if len(m.Lists) != 2*len(c.Capacities) {
			t.Errorf("New(%+v) returns %d lists", c, len(m.Lists))
		}
		for i, list := range m.Lists {
			if len(list) != 0 {
				t.Errorf("New(%+v): list %d is %v", c, i, list)
			}
		}
	}
}

func TestP5_3NewExamples(t *testing.T) {
	thread := make([]uint64, 11)
	for _, c := range []struct {
		capacity int
		start    uint64
		want     []uint64
	}{
		{0, 0, []uint64{0, 0, 0, 0, 0, 0, 0}},
		{0, last, []uint64{1<<64 - 2, last, 0, 0, 0, last, 0}},
		{1, 0, []uint64{0, 0, 0, 0, 0, 0, 0, 1, 0}},
		{1, 3, []uint64{6, 3, 0, 0, 0, 4, 0, 3, 0}},
		{2, last, []uint64{1<<64 - 2, last, 0, 0, 0, 0, 0, last, 0}},
		{3, 6, []uint64{12, 6, 0, 0, 0, 8, 0, 9, 0, 6, 0, 7, 0}},
		{4, last - 1, []uint64{1<<64 - 4, last - 1, 0, 0, 0, 0, 0, 1, 0, last - 1, 0, last, 0}},
	} {
		config := withThreads(starting(c.start, c.capacity), 1)
		m, errno := layout.New(config)
		if want := slices.Concat(c.want, thread); errno != api.OK || !slices.Equal(m.Words, want) {
			t.Errorf("New(%+v) = %v, %d, expected %v", config, m.Words, errno, want)
		}
	}
}

func TestP5_3NewOfInvalidConfigurations(t *testing.T) {
	list := []api.Config{{}, starting(0, 17), starting(0, -1), starting(1<<63, 3), starting(0, math.MaxInt), withThreads(starting(0, 1), math.MaxInt)}
	for flaws := 1; flaws < 32; flaws++ {
		list = append(list, flawed(flaws))
	}
	for _, c := range list {
		m, errno := layout.New(c)
		if errno != layout.Check(c) || errno == api.OK {
			t.Errorf("New(%+v) returns %d, and Check %d", c, errno, layout.Check(c))
		}
		if len(m.Words) != 0 || len(m.Lists) != 0 || m.Tick != 0 {
			t.Errorf("New(%+v) returns %+v beside an error", c, m)
		}
	}
}

func TestP5_4DifferentWordsHaveDifferentNumbers(t *testing.T) {
	for _, c := range samples() {
		names := map[int]string{}
		words := layout.Words(c)
		for _, p := range places(c) {
			if p.number < 0 || p.number >= words {
				t.Errorf("%+v: %s is %d of %d words", c, p.name, p.number, words)
			}
			if other, ok := names[p.number]; ok {
				t.Errorf("%+v: %s and %s are both %d", c, p.name, other, p.number)
			}
			names[p.number] = p.name
		}
		if len(names) != words {
			t.Errorf("%+v: %d of %d words have a name", c, len(names), words)
		}
		if m, _ := layout.New(c); len(m.Words) != words {
			t.Errorf("%+v: New returns %d words, and Words %d", c, len(m.Words), words)
		}
	}
}

func TestArgumentsAreNotModified(t *testing.T) {
	capacities := []int{3, 0, 91, 92}
	starts := []uint64{last, 4, 93, 94}
	c := api.Config{Capacities: capacities[:2], Starts: starts[:2], Threads: 2}
	first, _ := layout.New(c)
	layout.Check(c)
	places(c)
	second, _ := layout.New(c)
	if !slices.Equal(capacities, []int{3, 0, 91, 92}) || !slices.Equal(starts, []uint64{last, 4, 93, 94}) {
		t.Errorf("the arguments are now %v and %v", capacities, starts)
	}
	if !slices.Equal(first.Words, second.Words) || len(first.Lists) != len(second.Lists) {
		t.Errorf("New returns first %+v and then %+v", first, second)
	}
	first.Words[0] = 77
	if second.Words[0] == 77 {
		t.Error("two results of New share their words")
	}
}

func TestTotality(t *testing.T) {
	numbers := []int{math.MinInt, -1 << 32, -2, -1, 0, 1, 2, 7, 8, 9, 1 << 32, math.MaxInt - 1, math.MaxInt}
	configs := append(samples(),
		api.Config{},
		api.Config{Capacities: []int{3}},
		api.Config{Starts: []uint64{3}},
		api.Config{Capacities: numbers, Starts: []uint64{1 << 63}, Threads: math.MaxInt},
		api.Config{Capacities: numbers, Starts: make([]uint64, len(numbers)), Threads: math.MinInt},
		api.Config{Capacities: slices.Repeat([]int{math.MaxInt, 1 << 30}, 5000), Threads: -1},
	)
	for _, c := range configs {
		layout.Check(c)
		layout.New(c)
		layout.Words(c)
		for _, n := range numbers {
			for _, f := range []func(api.Config, int) int{
				layout.Tail, layout.Head, layout.Lock, layout.Receivers, layout.Senders, layout.ReceiverList, layout.SenderList,
				layout.Claim, layout.Flag, layout.Kind, layout.Case, layout.Value,
			} {
				f(c, n)
			}
			for _, other := range numbers {
				layout.SlotSeq(c, n, uint64(other))
				layout.SlotValue(c, n, uint64(other))
				layout.Out(c, n, other)
			}
		}
	}
}

func Example() {
	c := api.Config{Capacities: []int{2, 0}, Starts: []uint64{last, 0}, Threads: 2}
	fmt.Println(layout.Tail(c, 1), layout.Claim(c, 0), layout.Words(c))
	m, _ := layout.New(c)
	fmt.Println(m.Words[layout.Head(c, 0)], m.Words[layout.SlotSeq(c, 0, 0)], m.Words[layout.SlotSeq(c, 0, 1)])
	// Output:
	// 9 16 38
	// 9223372036854775807 0 9223372036854775807
}
