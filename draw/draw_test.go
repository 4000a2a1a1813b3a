package draw_test

import (
	"fmt"
	"math"
	"math/big"
	"slices"
	"testing"

	"chanfabric/draw"
)

const most = 20

// allDraws returns every list of draws for n elements, the last draw changing slowest.
func allDraws(n int) [][]int {
	lists := [][]int{{}}
	for i := range n {
		var longer [][]int
		for drawn := range i + 1 {
			for _, list := range lists {
				longer = append(longer, append(slices.Clone(list), drawn))
			}
		}
		lists = longer
	}
	return lists
}

// allPermutations returns every permutation of 0 to n - 1.
func allPermutations(n int) [][]int {
	lists := [][]int{{}}
	for i := range n {
		var longer [][]int
		for _, list := range lists {
			for at := range i + 1 {
				longer = append(longer, slices.Insert(slices.Clone(list), at, i))
			}
		}
		lists = longer
	}
	return lists
}

// someDraws returns lists of draws for n elements: the least, the greatest and some between them.
func someDraws(n int) [][]int {
	lists := make([][]int, 12)
	for k := range lists {
		lists[k] = make([]int, n)
		for i := range n {
			switch k {
			case 0:
			case 1:
				lists[k][i] = i
			default:
				lists[k][i] = (k*7 + i*i*3 + i*k) % (i + 1)
			}
		}
	}
	return lists
}

// isPermutation tells it by sorting.
func isPermutation(list []int) bool {
	for i, number := range slices.Sorted(slices.Values(list)) {
		if number != i {
			return false
		}
	}
	return true
}

func TestP2_1OrderExamples(t *testing.T) {
	for _, c := range []struct {
		n           int
		draws, want []int
	}{
		{1, []int{0}, []int{0}},
		{2, []int{0, 0}, []int{1, 0}},
		{2, []int{0, 1}, []int{0, 1}},
		{3, []int{0, 0, 0}, []int{1, 2, 0}},
		{3, []int{0, 1, 0}, []int{2, 1, 0}},
		{3, []int{0, 0, 1}, []int{2, 0, 1}},
		{3, []int{0, 1, 1}, []int{0, 2, 1}},
		{3, []int{0, 0, 2}, []int{1, 0, 2}},
		{3, []int{0, 1, 2}, []int{0, 1, 2}},
		{4, []int{0, 0, 0, 0}, []int{1, 2, 3, 0}},
		{4, []int{0, 1, 2, 3}, []int{0, 1, 2, 3}},
		{4, []int{0, 1, 0, 2}, []int{3, 1, 0, 2}},
		{5, []int{0, 0, 1, 2, 3}, []int{4, 0, 1, 2, 3}},
	} {
		if got := draw.Order(c.n, c.draws); !slices.Equal(got, c.want) {
			t.Errorf("Order(%d, %v) = %v, expected %v", c.n, c.draws, got, c.want)
		}
	}
}

func TestP2_1DrawsThatAreMissingOrOutOfRange(t *testing.T) {
	for _, c := range []struct {
		n                 int
		draws, equivalent []int
	}{
		{1, nil, []int{0}},
		{3, nil, []int{0, 0, 0}},
		{3, []int{}, []int{0, 0, 0}},
		{3, []int{0, 1}, []int{0, 1, 0}},
		{4, []int{0, 1, 2}, []int{0, 1, 2, 0}},
		{1, []int{99}, []int{0}},
		{3, []int{-5, 1, 2}, []int{0, 1, 2}},
		{3, []int{math.MinInt, 1, 2}, []int{0, 1, 2}},
		{2, []int{0, 2}, []int{0, 0}},
		{2, []int{0, 3}, []int{0, 1}},
		{2, []int{0, -1}, []int{0, 1}},
		{2, []int{0, -2}, []int{0, 0}},
		{3, []int{0, 0, 3}, []int{0, 0, 0}},
		{3, []int{0, 0, 5}, []int{0, 0, 2}},
		{3, []int{0, 0, -1}, []int{0, 0, 2}},
		{3, []int{0, 0, -2}, []int{0, 0, 1}},
		{3, []int{0, 0, -3}, []int{0, 0, 0}},
		{3, []int{0, 0, -4}, []int{0, 0, 2}},
		{3, []int{0, math.MaxInt, math.MaxInt}, []int{0, 1, 1}}, // 2^63 - 1 is 1 more than a multiple of 6
		{3, []int{0, math.MinInt, math.MinInt}, []int{0, 0, 1}}, // -2^63 is 2 less than a multiple of 6
		{3, []int{0, 0, 1, 2, 3}, []int{0, 0, 1}},
		{2, []int{0, 1, math.MinInt, math.MaxInt}, []int{0, 1}},
	} {
		got, want := draw.Order(c.n, c.draws), draw.Order(c.n, c.equivalent)
		if len(want) != c.n || !slices.Equal(got, want) {
			t.Errorf("Order(%d, %v) = %v, but with the draws %v it is %v", c.n, c.draws, got, c.equivalent, want)
		}
	}
}

func TestP2_1DrawsCountAsTheirRemainder(t *testing.T) {
	for n := 1; n <= most; n++ {
		for shift := -25; shift <= 25; shift++ {
			draws, equivalent := make([]int, n), make([]int, n)
			for i := range n {
				draws[i] = shift + 3*i
				if i%2 == 1 {
					draws[i] = shift - 2*i
				}
				equivalent[i] = int(new(big.Int).Mod(big.NewInt(int64(draws[i])), big.NewInt(int64(i+1))).Int64())
			}
			if got, want := draw.Order(n, draws), draw.Order(n, equivalent); len(want) != n || !slices.Equal(got, want) {
				t.Errorf("Order(%d, %v) = %v, but with the draws %v it is %v", n, draws, got, equivalent, want)
			}
		}
	}
}

func TestP2_1OrderOfTooFewOrTooMany(t *testing.T) {
	for _, n := range []int{math.MinInt, -1, 0, 21, 22, 1 << 31, math.MaxInt} {
		for _, draws := range [][]int{nil, {0}, {0, 1}, make([]int, 21)} {
			if got := draw.Order(n, draws); len(got) != 0 {
				t.Errorf("Order(%d, %v) = %v", n, draws, got)
			}
		}
	}
	for _, n := range []int{1, most} {
		if got := draw.Order(n, nil); len(got) != n {
			t.Errorf("Order(%d) = %v", n, got)
		}
	}
}

func TestP2_1OrderOfTwenty(t *testing.T) {
	// With the draw 0 everywhere, each element comes to the front in one exchange, and in the next it goes to the place before its own.
	want := make([]int, most)
	for i := range want {
		want[i] = (i + 1) % most
	}
	if got := draw.Order(most, make([]int, most)); !slices.Equal(got, want) {
		t.Errorf("Order(20) with the draw 0 everywhere = %v, expected %v", got, want)
	}
}

func TestP2_2DrawsExamples(t *testing.T) {
	for _, c := range []struct{ order, want []int }{
		{nil, nil},
		{[]int{}, nil},
		{[]int{0}, []int{0}},
		{[]int{1, 0}, []int{0, 0}},
		{[]int{0, 1}, []int{0, 1}},
		{[]int{1, 2, 0}, []int{0, 0, 0}},
		{[]int{2, 1, 0}, []int{0, 1, 0}},
		{[]int{0, 2, 1}, []int{0, 1, 1}},
		{[]int{3, 1, 0, 2}, []int{0, 1, 0, 2}},
	} {
		if got, ok := draw.Draws(c.order); !ok || !slices.Equal(got, c.want) {
			t.Errorf("Draws(%v) = %v, %v, expected %v", c.order, got, ok, c.want)
		}
	}
}

func TestP2_2NotAPermutation(t *testing.T) {
	tooLong := make([]int, 21)
	for i := range tooLong {
		tooLong[i] = i
	}
	for _, order := range [][]int{
		{1},
		{-1},
		{math.MinInt},
		{math.MaxInt},
		{0, 0},
		{1, 1},
		{1, 2},
		{0, -1},
		{0, 2},
		{0, 1, 1},
		{1, 0, 1},
		{2, 2, 0},
		{1, 2, 3},
		{0, 1, 3},
		{3, 1, 0},
		{-1, 0, 1},
		{0, 1, 1 << 32},
		make([]int, most),
		make([]int, 21),
		tooLong,
		tooLong[1:],
		append(slices.Clone(tooLong[:19]), 0),
		append([]int{19}, tooLong[1:20]...),
	} {
		if got, ok := draw.Draws(order); ok || len(got) != 0 {
			t.Errorf("Draws(%v) = %v, %v", order, got, ok)
		}
	}
	if _, ok := draw.Draws(tooLong[:most]); !ok {
		t.Error("Draws does not take 20 elements")
	}
}

func TestP2_2DrawsOfEveryShortList(t *testing.T) {
	// Every list of up to 5 numbers from -1 to its length is a permutation or is none.
	for n := range 6 {
		total := 1
		for range n {
			total *= n + 2
		}
		for code := range total {
			order := make([]int, n)
			for i := range n {
				order[i], code = code%(n+2)-1, code/(n+2)
			}
			draws, ok := draw.Draws(order)
			if ok != isPermutation(order) || !ok && len(draws) != 0 {
				t.Fatalf("Draws(%v) = %v, %v", order, draws, ok)
			}
		}
	}
}

func TestP2_3Count(t *testing.T) {
	for _, c := range []struct{ n, want int }{
		{0, 1},
		{1, 1},
		{2, 2},
		{3, 6},
		{4, 24},
		{13, 6227020800},
		{20, 2432902008176640000},
		{21, 0},
		{22, 0},
		{-1, 0},
		{-20, 0},
		{math.MaxInt, 0},
		{math.MinInt, 0},
	} {
		if got := draw.Count(c.n); got != c.want {
			t.Errorf("Count(%d) = %d, expected %d", c.n, got, c.want)
		}
	}
	for n := 1; n <= most; n++ {
		want := new(big.Int).MulRange(1, int64(n))
		if got := big.NewInt(int64(draw.Count(n))); got.Cmp(want) != 0 {
			t.Errorf("Count(%d) = %v, expected %v", n, got, want)
		}
	}
}

func TestP2_3NthAndIndexExamples(t *testing.T) {
	greatest := make([]int, most)
	for i := range greatest {
		greatest[i] = i
	}
	for _, c := range []struct {
		n, k int
		want []int
	}{
		{0, 0, nil},
		{1, 0, []int{0}},
		{2, 0, []int{0, 0}},
		{2, 1, []int{0, 1}},
		{3, 0, []int{0, 0, 0}},
		{3, 1, []int{0, 0, 1}},
		{3, 2, []int{0, 0, 2}},
		{3, 3, []int{0, 1, 0}},
		{3, 5, []int{0, 1, 2}},
		{4, 4, []int{0, 0, 1, 0}},
		{4, 23, []int{0, 1, 2, 3}},
		{5, 77, []int{0, 1, 0, 3, 2}},
		{20, 0, make([]int, most)},
		{20, 19, append(make([]int, most-1), 19)},
		{20, 20, append(make([]int, most-2), 1, 0)},
		{20, 2432902008176640000 - 1, greatest},
		{20, 2432902008176640000 / 2, append([]int{0, 1}, make([]int, most-2)...)},
	} {
		if got, ok := draw.Nth(c.n, c.k); !ok || !slices.Equal(got, c.want) {
			t.Errorf("Nth(%d, %d) = %v, %v, expected %v", c.n, c.k, got, ok, c.want)
		}
		if got, ok := draw.Index(c.want); !ok || got != c.k {
			t.Errorf("Index(%v) = %d, %v, expected %d", c.want, got, ok, c.k)
		}
	}
}

func TestP2_3NthWithoutSuchAList(t *testing.T) {
	for _, c := range []struct{ n, k int }{
		{0, 1},
		{0, -1},
		{1, 1},
		{3, 6},
		{3, -1},
		{3, math.MinInt},
		{3, math.MaxInt},
		{20, 2432902008176640000},
		{20, math.MaxInt},
		{21, 0},
		{21, 1},
		{-1, 0},
		{-1, -1},
		{math.MinInt, 0},
		{math.MaxInt, 0},
	} {
		if got, ok := draw.Nth(c.n, c.k); ok || len(got) != 0 {
			t.Errorf("Nth(%d, %d) = %v, %v", c.n, c.k, got, ok)
		}
	}
}

func TestP2_3IndexOfNoListOfDraws(t *testing.T) {
	for _, draws := range [][]int{
		{1},
		{-1},
		{0, 2},
		{0, -1},
		{0, 1, 3},
		{1, 1, 1},
		{0, 0, 0, 0, 5},
		{0, 0, -1, 0},
		{0, math.MaxInt},
		{0, math.MinInt},
		{0, 1, 1 << 32},
		append(make([]int, 19), 20),
		make([]int, 21),
		make([]int, 1000),
	} {
		if got, ok := draw.Index(draws); ok || got != 0 {
			t.Errorf("Index(%v) = %d, %v", draws, got, ok)
		}
	}
}

func TestP2_3EveryListHasOneNumber(t *testing.T) {
	for n := range 8 {
		count := draw.Count(n)
		lists := allDraws(n)
		if count != len(lists) {
			t.Errorf("Count(%d) = %d, but there are %d lists", n, count, len(lists))
		}
		for _, draws := range lists {
			k, ok := draw.Index(draws)
			if !ok || k < 0 || k >= count {
				t.Fatalf("Index(%v) = %d, %v", draws, k, ok)
			}
			if got, ok := draw.Nth(n, k); !ok || !slices.Equal(got, draws) {
				t.Fatalf("Nth(%d, Index(%v)) = %v, %v", n, draws, got, ok)
			}
		}
		for k := range count {
			draws, ok := draw.Nth(n, k)
			if got, same := draw.Index(draws); !ok || !same || got != k {
				t.Fatalf("Index(Nth(%d, %d)) = %d, %v", n, k, got, same)
			}
		}
	}
}

func TestP2_3LargeNumbers(t *testing.T) {
	for n := 8; n <= most; n++ {
		count := draw.Count(n)
		for part := range 50 {
			for _, k := range []int{count / 50 * part, count - 1 - part*part} {
				draws, ok := draw.Nth(n, k)
				if got, same := draw.Index(draws); !ok || !same || got != k {
					t.Errorf("Index(Nth(%d, %d)) = %d, %v", n, k, got, same)
				}
				for i, rest := n-1, k; i >= 0; i-- {
					if draws[i] != rest%(i+1) {
						t.Errorf("Nth(%d, %d) = %v has a wrong draw %d", n, k, draws, i)
					}
					rest /= i + 1
				}
			}
		}
	}
}

func TestP2_4OrderAndDrawsAreInverse(t *testing.T) {
	for n := 1; n <= 7; n++ {
		for _, order := range allPermutations(n) {
			draws, ok := draw.Draws(order)
			if _, list := draw.Index(draws); !ok || !list || len(draws) != n {
				t.Fatalf("Draws(%v) = %v, %v", order, draws, ok)
			}
			if got := draw.Order(n, draws); !slices.Equal(got, order) {
				t.Fatalf("Order(%d, Draws(%v)) = %v", n, order, got)
			}
		}
		for _, draws := range allDraws(n) {
			if got, ok := draw.Draws(draw.Order(n, draws)); !ok || !slices.Equal(got, draws) {
				t.Fatalf("Draws(Order(%d, %v)) = %v, %v", n, draws, got, ok)
			}
		}
	}
	for n := 8; n <= most; n++ {
		for _, draws := range someDraws(n) {
			order := draw.Order(n, draws)
			if len(order) != n || !isPermutation(order) {
				t.Errorf("Order(%d, %v) = %v", n, draws, order)
			}
			if got, ok := draw.Draws(order); !ok || !slices.Equal(got, draws) {
				t.Errorf("Draws(Order(%d, %v)) = %v, %v", n, draws, got, ok)
			}
		}
	}
}

func TestP2_4EveryElementComesFirstEquallyOften(t *testing.T) {
	for n := 1; n <= 7; n++ {
		first := make([]int, n)
		for k := range draw.Count(n) {
			draws, _ := draw.Nth(n, k)
			order := draw.Order(n, draws)
			if len(order) != n {
				t.Fatalf("Order(%d, %v) = %v", n, draws, order)
			}
			first[order[0]]++
		}
		for element, times := range first {
			if times != draw.Count(n-1) {
				t.Errorf("of %d elements, %d comes first in %d permutations", n, element, times)
			}
		}
	}
}

func TestArgumentsStayAsTheyAre(t *testing.T) {
	// The first 4 elements are the argument; what lies behind them is its spare capacity.
	whole := []int{2, 0, 3, 1, 70, 71, 72, 73}
	before := slices.Clone(whole)
	order := whole[:4]
	draw.Order(6, order)
	draw.Index(order)
	draws, _ := draw.Draws(order)
	for i := range draws {
		draws[i] = 90
	}
	for _, n := range []int{3, 4, 6} {
		shuffled := draw.Order(n, order)
		for i := range shuffled {
			shuffled[i] = 91
		}
	}
	if !slices.Equal(whole, before) {
		t.Errorf("the argument became %v", whole)
	}
}

func TestResultsAreNewMemory(t *testing.T) {
	calls := []func() []int{
		func() []int { return draw.Order(4, []int{0, 1, 0, 2}) },
		func() []int { draws, _ := draw.Draws([]int{3, 1, 0, 2}); return draws },
		func() []int { draws, _ := draw.Nth(4, 17); return draws },
	}
	for number, call := range calls {
		first := call()
		want := slices.Clone(first)
		clear(first)
		if got := call(); len(got) != 4 || !slices.Equal(got, want) {
			t.Errorf("function %d returned %v, and then %v", number, want, got)
		}
	}
}

func Example() {
	draws := []int{0, 0, 0}
	order := draw.Order(3, draws)
	fmt.Println(order)
	fmt.Println(draw.Draws(order))
	fmt.Println(draw.Count(4))
	fmt.Println(draw.Nth(4, 17))
	fmt.Println(draw.Index([]int{0, 1, 1, 1}))
	// Output:
	// [1 2 0]
	// [0 0 0] true
	// 24
	// [0 1 1 1] true
	// 17 true
}
