package window_test

import (
	"fmt"
	"math"
	"math/big"
	"slices"
	"testing"

	"chanfabric/api"
	"chanfabric/draw"
	"chanfabric/window"
)

const most = 8

// Numbers of threads for which there are no schedules.
var noThreads = []int{math.MinInt, math.MinInt + 1, -1 << 32, -9, -8, -1, 0, most + 1, 20, 21, 100, 1 << 32, 1<<32 + 1, math.MaxInt}

// Numbers that are no threads, however many threads there are.
var noPicks = []int{math.MinInt, -1 << 32, -9, -2, -1, most, most + 1, 1 << 32, 1<<32 + 1, math.MaxInt}

// factorials returns the number of permutations for 0 to most threads.
func factorials() [most + 1]int {
	return [most + 1]int{1, 1, 2, 6, 24, 120, 720, 5040, 40320}
}

// allLists returns every list of a length, of numbers from first to last.
func allLists(length, first, last int) [][]int {
	lists := [][]int{{}}
	for range length {
		var longer [][]int
		for _, list := range lists {
			for number := first; number <= last; number++ {
				longer = append(longer, append(slices.Clone(list), number))
			}
		}
		lists = longer
	}
	return lists
}

// someNumbers returns numbers of rounds at the edges of the permutations and of int.
func someNumbers() []int {
	list := []int{3, 77, -77, 1000003, -1000003, math.MinInt, math.MaxInt}
	for _, edge := range []int{0, 2, 6, 24, 120, 720, 5040, 40320, 2 * 40320, 1 << 31, 1 << 32, 1 << 62, math.MaxInt - 1} {
		for _, n := range []int{edge - 1, edge, edge + 1} {
			list = append(list, n, -n)
		}
	}
	return list
}

// generator returns a function that returns numbers from 0 to n - 1, always the same ones for a seed.
func generator(seed uint64) func(n int) int {
	return func(n int) int {
		seed = seed*6364136223846793005 + 1442695040888963407
		return int(seed >> 33 % uint64(n))
	}
}

// shuffled is a second reading of P19.1: the last draw comes first out of the number of the round, and is the first one that the shuffle needs.
func shuffled(threads, k int) []int {
	order := make([]int, threads)
	for i := range order {
		order[i] = i
	}
	count := new(big.Int).MulRange(1, int64(threads))
	rest := new(big.Int).Mod(big.NewInt(int64(k)), count).Int64()
	for i := threads - 1; i > 0; i-- {
		drawn := rest % int64(i+1)
		rest /= int64(i + 1)
		order[i], order[drawn] = order[drawn], order[i]
	}
	return order
}

// containsAll reports whether every thread is among the picks.
func containsAll(picks []int, threads int) bool {
	for thread := range threads {
		if !slices.Contains(picks, thread) {
			return false
		}
	}
	return true
}

// measured is a second reading of P19.2: it tries every division of the picks.
func measured(picks []int, threads int) int {
	// parts[n] is the number for the first n picks, where the last part may contain what is left over.
	parts := make([]int, len(picks)+1)
	for end := range parts {
		for start := range end {
			if containsAll(picks[start:end], threads) {
				parts[end] = max(parts[end], parts[start]+1)
			}
		}
	}
	return slices.Max(parts)
}

func TestThreadsAreThoseOfConfigurations(t *testing.T) {
	if most != api.MaxThreads {
		t.Errorf("a configuration has up to %d threads", api.MaxThreads)
	}
}

func TestP19_1RoundExamples(t *testing.T) {
	for _, c := range []struct {
		threads, k int
		want       []int
	}{
		{1, 0, []int{0}},
		{1, 1, []int{0}},
		{1, -1, []int{0}},
		{1, math.MaxInt, []int{0}},
		{1, math.MinInt, []int{0}},
		{2, 0, []int{1, 0}},
		{2, 1, []int{0, 1}},
		{2, 2, []int{1, 0}},
		{2, 3, []int{0, 1}},
		{2, -1, []int{0, 1}},
		{2, -2, []int{1, 0}},
		{2, math.MaxInt, []int{0, 1}},
		{2, math.MinInt, []int{1, 0}},
		{3, 0, []int{1, 2, 0}},
		{3, 1, []int{2, 0, 1}},
		{3, 2, []int{1, 0, 2}},
		{3, 3, []int{2, 1, 0}},
		{3, 4, []int{0, 2, 1}},
		{3, 5, []int{0, 1, 2}},
		{3, 6, []int{1, 2, 0}},
		{3, 7, []int{2, 0, 1}},
		{3, -1, []int{0, 1, 2}},
		{3, -6, []int{1, 2, 0}},
		{3, -7, []int{0, 1, 2}},
		{4, 23, []int{0, 1, 2, 3}},
		{4, 0, []int{1, 2, 3, 0}},
		{8, 0, []int{1, 2, 3, 4, 5, 6, 7, 0}},
		{8, 40319, []int{0, 1, 2, 3, 4, 5, 6, 7}},
		{8, 40320, []int{1, 2, 3, 4, 5, 6, 7, 0}},
		{8, -1, []int{0, 1, 2, 3, 4, 5, 6, 7}},
	} {
		if got := window.Round(c.threads, c.k); !slices.Equal(got, c.want) {
			t.Errorf("Round(%d, %d) = %v, expected %v", c.threads, c.k, got, c.want)
		}
	}
}

func TestP19_1EveryRound(t *testing.T) {
	for threads := 1; threads <= most; threads++ {
		count := factorials()[threads]
		seen := make(map[[most]int]bool)
		for k := range count {
			got := window.Round(threads, k)
			draws, ok := draw.Nth(threads, k)
			if want := draw.Order(threads, draws); !ok || !slices.Equal(got, want) || !slices.Equal(got, shuffled(threads, k)) {
				t.Fatalf("Round(%d, %d) = %v, expected %v", threads, k, got, want)
			}
			if !containsAll(got, threads) {
				t.Fatalf("Round(%d, %d) = %v is no permutation", threads, k, got)
			}
			var key [most]int
			copy(key[:], got)
			seen[key] = true
			for _, other := range []int{k + count, k - count, k + 1000*count, k - 1000*count} {
				if again := window.Round(threads, other); !slices.Equal(again, got) {
					t.Fatalf("Round(%d, %d) = %v, but Round(%d, %d) = %v", threads, other, again, threads, k, got)
				}
			}
		}
		if len(seen) != count {
			t.Errorf("the rounds of %d threads are %d permutations", threads, len(seen))
		}
	}
}

func TestP19_1AnyNumber(t *testing.T) {
	for threads := 1; threads <= most; threads++ {
		for _, k := range someNumbers() {
			if got, want := window.Round(threads, k), shuffled(threads, k); !slices.Equal(got, want) {
				t.Errorf("Round(%d, %d) = %v, expected %v", threads, k, got, want)
			}
		}
	}
}

func TestP19_1RoundsExamples(t *testing.T) {
	for _, c := range []struct {
		threads       int
		numbers, want []int
	}{
		{1, nil, nil},
		{8, []int{}, nil},
		{1, []int{0, 5, -5, math.MinInt, math.MaxInt}, []int{0, 0, 0, 0, 0}},
		{2, []int{1}, []int{0, 1}},
		{2, []int{0, 0}, []int{1, 0, 1, 0}},
		{2, []int{0, 1, -1, 2}, []int{1, 0, 0, 1, 0, 1, 1, 0}},
		{3, []int{5, 0, 3}, []int{0, 1, 2, 1, 2, 0, 2, 1, 0}},
		{3, []int{-1, 6, 9}, []int{0, 1, 2, 1, 2, 0, 2, 1, 0}},
		{8, []int{-1, 0}, []int{0, 1, 2, 3, 4, 5, 6, 7, 1, 2, 3, 4, 5, 6, 7, 0}},
	} {
		if got := window.Rounds(c.threads, c.numbers); !slices.Equal(got, c.want) {
			t.Errorf("Rounds(%d, %v) = %v, expected %v", c.threads, c.numbers, got, c.want)
		}
	}
}

func TestP19_1RoundsAreThoseOfTheNumbers(t *testing.T) {
	numbers := someNumbers()
	for threads := 1; threads <= most; threads++ {
		var want []int
		for n, k := range numbers {
			if got := window.Rounds(threads, numbers[:n]); !slices.Equal(got, want) {
				t.Fatalf("Rounds(%d, %v) = %v, expected %v", threads, numbers[:n], got, want)
			}
			want = append(want, shuffled(threads, k)...)
		}
		if got := window.Rounds(threads, numbers); !slices.Equal(got, want) {
			t.Errorf("Rounds(%d, %v) = %v, expected %v", threads, numbers, got, want)
		}
	}
}

func TestP19_1NoSuchThreads(t *testing.T) {
	for _, threads := range noThreads {
		for _, k := range someNumbers() {
			if got := window.Round(threads, k); len(got) != 0 {
				t.Errorf("Round(%d, %d) = %v", threads, k, got)
			}
		}
		for _, numbers := range [][]int{nil, {0}, {1, 2, 3}, someNumbers()} {
			if got := window.Rounds(threads, numbers); len(got) != 0 {
				t.Errorf("Rounds(%d, %v) = %v", threads, numbers, got)
			}
		}
	}
}

func TestP19_2MeasureExamples(t *testing.T) {
	for _, c := range []struct {
		picks         []int
		threads, want int
	}{
		{[]int{0, 1, 1, 0, 0}, 2, 2},
		{nil, 1, 0},
		{[]int{}, 8, 0},
		{[]int{0}, 1, 1},
		{[]int{0, 0, 0}, 1, 3},
		{[]int{1}, 1, 0},
		{[]int{0, 1, 0, -1}, 1, 2},
		{[]int{0}, 2, 0},
		{[]int{1}, 2, 0},
		{[]int{0, 0, 0}, 2, 0},
		{[]int{0, 1}, 2, 1},
		{[]int{1, 0}, 2, 1},
		{[]int{0, 1, 0}, 2, 1},
		{[]int{0, 0, 1, 1}, 2, 1},
		{[]int{0, 1, 0, 1}, 2, 2},
		{[]int{0, 0, 1, 1, 0}, 2, 2},
		{[]int{0, 2, 1, -1, 0, 7, 1}, 2, 2},
		{[]int{0, 2, 0, 2}, 2, 0},
		{[]int{0, 1, 2}, 3, 1},
		{[]int{0, 1}, 3, 0},
		{[]int{0, 1, 3}, 3, 0},
		{[]int{0, 1, -1, 2}, 3, 1},
		{[]int{0, 1, 2, 2, 1, 0}, 3, 2},
		{[]int{0, 1, 0, 1, 2, 0, 1}, 3, 1},
		// Parts that overlap are no parts: 0, 1, 2 and 2, 0, 1 would share a pick.
		{[]int{0, 1, 2, 0, 1}, 3, 1},
		{[]int{0, 1, 2, 3, 4, 5, 6, 7}, 8, 1},
		{[]int{7, 6, 5, 4, 3, 2, 1, 0, 8}, 8, 1},
		{[]int{0, 1, 2, 3, 4, 5, 6, 8}, 8, 0},
		{[]int{0, 1, 2, 3, 4, 5, 6}, 8, 0},
		{[]int{0, 1, 2, 3, 4, 5, 6, 7}, 7, 1},
		{[]int{0, 1, 2, 3, 4, 5, 6, 7}, 4, 1},
		{[]int{0, 1, 2, 3, 4, 5, 6, 7}, 1, 1},
	} {
		if got := window.Measure(c.picks, c.threads); got != c.want {
			t.Errorf("Measure(%v, %d) = %d, expected %d", c.picks, c.threads, got, c.want)
		}
	}
}

func TestP19_2EveryShortList(t *testing.T) {
	for i, longest := range []int{9, 8, 7, 6} {
		threads := i + 1
		for length := range longest + 1 {
			for _, picks := range allLists(length, -1, threads) {
				if got, want := window.Measure(picks, threads), measured(picks, threads); got != want {
					t.Fatalf("Measure(%v, %d) = %d, expected %d", picks, threads, got, want)
				}
			}
		}
	}
}

func TestP19_2LongerLists(t *testing.T) {
	number := generator(19)
	for threads := 1; threads <= most; threads++ {
		for range 300 {
			picks := make([]int, number(80))
			for i := range picks {
				picks[i] = number(threads+2) - 1
			}
			if got, want := window.Measure(picks, threads), measured(picks, threads); got != want {
				t.Fatalf("Measure(%v, %d) = %d, expected %d", picks, threads, got, want)
			}
		}
	}
}

func TestP19_2PicksThatAreNoThreads(t *testing.T) {
	for threads := 1; threads <= most; threads++ {
		whole := window.Round(threads, 0)
		for _, other := range append(slices.Clone(noPicks), threads) {
			for at := range threads {
				spoiled := slices.Clone(whole)
				spoiled[at] = other
				if got := window.Measure(spoiled, threads); got != 0 {
					t.Errorf("Measure(%v, %d) = %d", spoiled, threads, got)
				}
			}
			for at := range threads + 1 {
				longer := slices.Insert(slices.Clone(whole), at, other, other)
				if got := window.Measure(longer, threads); got != 1 {
					t.Errorf("Measure(%v, %d) = %d", longer, threads, got)
				}
			}
		}
	}
}

func TestP19_2NoSuchThreads(t *testing.T) {
	for _, threads := range noThreads {
		for _, picks := range [][]int{nil, {0}, {0, 0, 0}, {0, 1, 2, 3, 4, 5, 6, 7, 8, 0}, noPicks} {
			if got := window.Measure(picks, threads); got != 0 {
				t.Errorf("Measure(%v, %d) = %d", picks, threads, got)
			}
		}
	}
}

func TestP19_3BoundExamples(t *testing.T) {
	for _, c := range []struct{ threads, operations, want int }{
		{0, 0, 60},
		{1, 0, 120},
		{0, 1, 240},
		{1, 1, 480},
		{2, 3, 2880},
		{3, 2, 2160},
		{8, 128, 8986140},
		{9, 0, 600},
		{-1, 0, 60},
		{0, -1, 60},
		{-5, -7, 60},
		{-5, 3, 960},
		{3, -5, 240},
		{math.MinInt, math.MinInt, 60},
		{999, 0, 60000},
		{1000, 0, 60060},
		{1001, 0, 60060},
		{0, 999, 60000000},
		{0, 1000, 60120060},
		{0, 1001, 60120060},
		{1000, 1000, 60180180060},
		{1001, 1001, 60180180060},
		{math.MaxInt, math.MaxInt, 60180180060},
		{math.MaxInt, 0, 60060},
		{0, math.MaxInt, 60120060},
		{math.MaxInt, math.MinInt, 60060},
		{math.MinInt, math.MaxInt, 60120060},
		{1 << 32, 1 << 32, 60180180060},
		{-1 << 32, -1 << 32, 60},
	} {
		if got := window.Bound(c.threads, c.operations); got != c.want {
			t.Errorf("Bound(%d, %d) = %d, expected %d", c.threads, c.operations, got, c.want)
		}
	}
}

func TestP19_3EveryNumberThatCounts(t *testing.T) {
	for threads := -3; threads <= 1003; threads++ {
		for operations := -3; operations <= 1003; operations++ {
			n, m := min(max(threads, 0), 1000), min(max(operations, 0), 1000)
			want := 60 * (m*m + 2*m + 1) * (n + 1)
			if got := window.Bound(threads, operations); got != want {
				t.Fatalf("Bound(%d, %d) = %d, expected %d", threads, operations, got, want)
			}
		}
	}
}

func TestP19_4RoundsHaveTheirMeasure(t *testing.T) {
	number := generator(4)
	for threads := 1; threads <= most; threads++ {
		for n := range 40 {
			numbers := make([]int, n)
			for i := range numbers {
				numbers[i] = number(100000) - 50000
			}
			picks := window.Rounds(threads, numbers)
			if len(picks) != n*threads {
				t.Errorf("Rounds(%d, %v) has %d picks", threads, numbers, len(picks))
			}
			if got := window.Measure(picks, threads); got != n {
				t.Errorf("Measure(Rounds(%d, %v), %d) = %d", threads, numbers, threads, got)
			}
		}
	}
}

func TestP19_4TwoParts(t *testing.T) {
	check := func(picks []int, threads int) {
		whole := window.Measure(picks, threads)
		for at := range len(picks) + 1 {
			first, second := window.Measure(picks[:at], threads), window.Measure(picks[at:], threads)
			if whole < first+second || whole > first+second+1 {
				t.Fatalf("Measure(%v, %d) = %d, but %d and %d of the parts before and behind %d", picks, threads, whole, first, second, at)
			}
		}
	}
	for threads := 1; threads <= 3; threads++ {
		for length := range 8 {
			for _, picks := range allLists(length, 0, threads) {
				check(picks, threads)
			}
		}
	}
	number := generator(7)
	for threads := 1; threads <= most; threads++ {
		for range 100 {
			picks := make([]int, number(100))
			for i := range picks {
				picks[i] = number(threads+2) - 1
			}
			check(picks, threads)
		}
	}
}

func TestLongLists(t *testing.T) {
	numbers := make([]int, 300000)
	for i := range numbers {
		numbers[i] = i * 7919
	}
	picks := window.Rounds(most, numbers)
	if len(picks) != most*len(numbers) || window.Measure(picks, most) != len(numbers) {
		t.Errorf("%d rounds have %d picks with the measure %d", len(numbers), len(picks), window.Measure(picks, most))
	}
	last := len(numbers) - 1
	if !slices.Equal(picks[most*last:], shuffled(most, numbers[last])) {
		t.Errorf("the last round is %v", picks[most*last:])
	}
	if got := window.Measure(picks, 1); got != len(numbers) {
		t.Errorf("Measure with one thread = %d", got)
	}
}

func TestArgumentsStayAsTheyAre(t *testing.T) {
	// The first 5 elements are the argument; what lies behind them is its spare capacity.
	whole := []int{2, 0, -3, 1, 9, 70, 71, 72, 73}
	before := slices.Clone(whole)
	for threads := -1; threads <= most+1; threads++ {
		picks := window.Rounds(threads, whole[:5])
		clear(picks[:cap(picks)])
		window.Measure(whole[:5], threads)
	}
	if !slices.Equal(whole, before) {
		t.Errorf("the argument became %v", whole)
	}
}

func TestResultsAreNewMemory(t *testing.T) {
	for threads := 1; threads <= most; threads++ {
		for number, call := range []func() []int{
			func() []int { return window.Round(threads, 1) },
			func() []int { return window.Rounds(threads, []int{1}) },
			func() []int { return window.Rounds(threads, []int{1, -1, 1}) },
		} {
			first := call()
			want := slices.Clone(first)
			for i := range first {
				first[i] = -1
			}
			if got := call(); !slices.Equal(got, want) {
				t.Errorf("function %d returned %v, and then %v", number, want, got)
			}
		}
	}
}

func Example() {
	fmt.Println(window.Round(3, 0))
	fmt.Println(window.Rounds(3, []int{-1, 6}))
	fmt.Println(window.Measure([]int{0, 1, 1, 0, 0}, 2))
	fmt.Println(window.Bound(2, 3))
	// Output:
	// [1 2 0]
	// [0 1 2 1 2 0]
	// 2
	// 2880
}
