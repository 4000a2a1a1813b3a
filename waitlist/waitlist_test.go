package waitlist_test

import (
	"fmt"
	"math"
	"math/rand"
	"slices"
	"testing"

	"chanfabric/api"
	"chanfabric/waitlist"
)

// all is the number of records that Record returns.
const all = api.MaxThreads * api.MaxCases

// most is the greatest number of pairs that Pairs returns.
const most = 1000

// far returns numbers from all over the range of int.
func far() []int {
	return []int{math.MinInt, math.MinInt + 1, -1 << 32, -all, -api.MaxCases - 1, -api.MaxCases, -1, 0, 1, api.MaxCases - 1, api.MaxCases,
		api.MaxThreads - 1, api.MaxThreads, all - 1, all, 1 << 32, 1<<32 + 1, math.MaxInt / api.MaxCases, math.MaxInt/api.MaxCases + 1, math.MaxInt - 1, math.MaxInt}
}

// threadOf is what P13.1 says of Thread.
func threadOf(record int) int {
	if record < 0 {
		return -1
	}
	return record / 6
}

// pairsOf is what P13.3 says of Pairs, without its limit.
func pairsOf(receivers, senders []int) [][2]int {
	var pairs [][2]int
	for _, r := range receivers {
		for _, s := range senders {
			if threadOf(r) != threadOf(s) {
				pairs = append(pairs, [2]int{r, s})
			}
		}
	}
	return pairs
}

func TestP13_1Record(t *testing.T) {
	next := 0
	for thread := range api.MaxThreads {
		for index := range api.MaxCases {
			record := waitlist.Record(thread, index)
			if record != next {
				t.Errorf("Record(%d, %d) = %d, expected %d", thread, index, record, next)
			}
			if waitlist.Thread(record) != thread || waitlist.Case(record) != index {
				t.Errorf("record %d is of thread %d and case %d, expected %d and %d", record, waitlist.Thread(record), waitlist.Case(record), thread, index)
			}
			next++
		}
	}
	for _, c := range []struct{ thread, index, want int }{
		{2, 1, 13}, {0, 0, 0}, {0, 5, 5}, {1, 0, 6}, {7, 5, 47}, {0, 6, -1}, {8, 0, -1}, {8, 6, -1}, {0, -1, -1}, {-1, 0, -1}, {1, -1, -1}, {-1, 5, -1}, {-1, -1, -1},
	} {
		if got := waitlist.Record(c.thread, c.index); got != c.want {
			t.Errorf("Record(%d, %d) = %d, expected %d", c.thread, c.index, got, c.want)
		}
	}
}

func TestP13_1RecordOfNoThreadOrCase(t *testing.T) {
	for _, thread := range far() {
		for _, index := range far() {
			if thread >= 0 && thread < 8 && index >= 0 && index < 6 {
				continue
			}
			if got := waitlist.Record(thread, index); got != -1 {
				t.Errorf("Record(%d, %d) = %d", thread, index, got)
			}
		}
	}
}

func TestP13_1ThreadAndCase(t *testing.T) {
	for _, c := range []struct{ record, thread, index int }{
		{0, 0, 0}, {5, 0, 5}, {6, 1, 0}, {13, 2, 1}, {47, 7, 5},
		{-1, -1, -1}, {-2, -1, -1}, {-5, -1, -1}, {-6, -1, -1}, {-7, -1, -1}, {-12, -1, -1}, {-48, -1, -1}, {math.MinInt, -1, -1}, {math.MinInt + 1, -1, -1},
		// A list may contain any number, and Record's limits are not limits of these two.
		{48, 8, 0}, {53, 8, 5}, {1<<32 + 1, 715827882, 5}, {math.MaxInt, 1537228672809129301, 1}, {math.MaxInt - 1, 1537228672809129301, 0}, {math.MaxInt - 2, 1537228672809129300, 5},
	} {
		if got := waitlist.Thread(c.record); got != c.thread {
			t.Errorf("Thread(%d) = %d, expected %d", c.record, got, c.thread)
		}
		if got := waitlist.Case(c.record); got != c.index {
			t.Errorf("Case(%d) = %d, expected %d", c.record, got, c.index)
		}
	}
}

func TestP13_2WithoutAndFirst(t *testing.T) {
	for _, c := range []struct {
		list   []int
		thread int
		want   []int
	}{
		{nil, 0, nil},
		{[]int{}, 0, nil},
		{[]int{3}, 0, nil},
		{[]int{3}, 1, []int{3}},
		{[]int{0, 5, 3}, 0, nil},
		{[]int{5, 6}, 0, []int{6}},
		{[]int{5, 6}, 1, []int{5}},
		{[]int{13, 2, 12, 40, 17, 2, 13}, 2, []int{2, 40, 2}},
		{[]int{13, 2, 12, 40, 17, 2, 13}, 0, []int{13, 12, 40, 17, 13}},
		{[]int{13, 2, 12, 40, 17, 2, 13}, 6, []int{13, 2, 12, 17, 2, 13}},
		{[]int{13, 2, 12, 40, 17, 2, 13}, 5, []int{13, 2, 12, 40, 17, 2, 13}},
		// The number of a thread is no record.
		{[]int{1, 7, 1}, 7, []int{1, 7, 1}},
		// A first record of 0 is one.
		{[]int{8, 0, 9}, 1, []int{0}},
		// Thread of a negative record is -1.
		{[]int{-1, 4, -7, math.MinInt, 9}, -1, []int{4, 9}},
		{[]int{-1, 4, -7, math.MinInt, 9}, 0, []int{-1, -7, math.MinInt, 9}},
		{[]int{-1, 4, -7, math.MinInt, 9}, -2, []int{-1, 4, -7, math.MinInt, 9}},
		{[]int{-1, -6, -6}, -1, nil},
		{[]int{48, 53, 54}, 8, []int{54}},
		{[]int{math.MaxInt, math.MaxInt - 2}, 1537228672809129301, []int{math.MaxInt - 2}},
		{[]int{math.MaxInt, 0}, math.MaxInt, []int{math.MaxInt, 0}},
		{[]int{math.MaxInt, -1}, math.MinInt, []int{math.MaxInt, -1}},
	} {
		expectWithout(t, c.list, c.thread, c.want)
	}
}

// expectWithout expects the records of a list without those of a thread, and the first one of them.
func expectWithout(t *testing.T, list []int, thread int, want []int) {
	t.Helper()
	if got := waitlist.Without(list, thread); !slices.Equal(got, want) {
		t.Errorf("Without(%v, %d) = %v, expected %v", list, thread, got, want)
	}
	first, found := 0, len(want) > 0
	if found {
		first = want[0]
	}
	if got, ok := waitlist.First(list, thread); got != first || ok != found {
		t.Errorf("First(%v, %d) = %d, %v, expected %d, %v", list, thread, got, ok, first, found)
	}
}

// randomList returns a list of records, of few threads or of many, with longer and shorter runs of one thread.
func randomList(random *rand.Rand, length int) []int {
	list := make([]int, 0, length)
	threads := 1 + random.Intn(api.MaxThreads)
	for len(list) < length {
		thread := random.Intn(threads+1) - 1
		for range 1 + random.Intn(4) {
			list = append(list, thread*api.MaxCases+random.Intn(api.MaxCases))
		}
	}
	return list[:length]
}

func TestP13_2RandomLists(t *testing.T) {
	random := rand.New(rand.NewSource(132))
	for range 3000 {
		list := randomList(random, random.Intn(20))
		for thread := -2; thread <= api.MaxThreads; thread++ {
			var want []int
			for _, record := range list {
				if threadOf(record) != thread {
					want = append(want, record)
				}
			}
			expectWithout(t, list, thread, want)
		}
	}
}

func TestP13_3Pairs(t *testing.T) {
	for _, c := range []struct {
		receivers, senders []int
		want               [][2]int
	}{
		{nil, nil, nil},
		{[]int{}, []int{}, nil},
		{[]int{1, 7}, nil, nil},
		{nil, []int{1, 7}, nil},
		{[]int{1}, []int{7}, [][2]int{{1, 7}}},
		{[]int{7}, []int{1}, [][2]int{{7, 1}}},
		{[]int{0}, []int{5}, nil},
		{[]int{3}, []int{3}, nil},
		{[]int{0, 6}, []int{12, 18}, [][2]int{{0, 12}, {0, 18}, {6, 12}, {6, 18}}},
		{[]int{6, 0}, []int{18, 12}, [][2]int{{6, 18}, {6, 12}, {0, 18}, {0, 12}}},
		{[]int{13, 2}, []int{14, 3, 20}, [][2]int{{13, 3}, {13, 20}, {2, 14}, {2, 20}}},
		// Senders of the same thread at the beginning, in the middle and at the end.
		{[]int{8}, []int{6, 7, 0, 9, 6, 1, 30, 10, 11}, [][2]int{{8, 0}, {8, 1}, {8, 30}}},
		{[]int{0, 1, 2}, []int{3, 4, 5, 6}, [][2]int{{0, 6}, {1, 6}, {2, 6}}},
		{[]int{0, 1, 2}, []int{3, 4, 5}, nil},
		// A record that is there twice makes its pairs twice.
		{[]int{1, 1}, []int{7, 8, 7}, [][2]int{{1, 7}, {1, 8}, {1, 7}, {1, 7}, {1, 8}, {1, 7}}},
		// All negative records have the same Thread.
		{[]int{-1, 0}, []int{-7, 6, -1}, [][2]int{{-1, 6}, {0, -7}, {0, 6}, {0, -1}}},
		{[]int{-1, math.MinInt}, []int{-2, -60}, nil},
		{[]int{math.MaxInt}, []int{math.MaxInt - 1, math.MaxInt - 2, 48, math.MinInt}, [][2]int{{math.MaxInt, math.MaxInt - 2}, {math.MaxInt, 48}, {math.MaxInt, math.MinInt}}},
	} {
		if got := waitlist.Pairs(c.receivers, c.senders); !slices.Equal(got, c.want) {
			t.Errorf("Pairs(%v, %v) = %v, expected %v", c.receivers, c.senders, got, c.want)
		}
	}
}

func TestP13_3RandomLists(t *testing.T) {
	random := rand.New(rand.NewSource(133))
	for range 20000 {
		receivers, senders := randomList(random, random.Intn(12)), randomList(random, random.Intn(12))
		if got, want := waitlist.Pairs(receivers, senders), pairsOf(receivers, senders); !slices.Equal(got, want) {
			t.Fatalf("Pairs(%v, %v) = %v, expected %v", receivers, senders, got, want)
		}
	}
}

func TestP13_3OnlyTheFirstThousandPairs(t *testing.T) {
	random := rand.New(rand.NewSource(1000))
	// The products lie around 1,000.
	for _, c := range []struct{ receivers, senders int }{
		{1, 999}, {1, 1000}, {1, 1001}, {999, 1}, {1000, 1}, {1001, 1}, {27, 37}, {8, 125}, {125, 8}, {10, 100}, {100, 10}, {7, 143}, {143, 7}, {31, 32}, {32, 32}, {1000, 1000}, {1, 5000}, {5000, 1},
	} {
		// Thread 0 receives and thread 1 sends, so every pair is one.
		receivers, senders := make([]int, c.receivers), make([]int, c.senders)
		for i := range receivers {
			receivers[i] = random.Intn(api.MaxCases)
		}
		for i := range senders {
			senders[i] = api.MaxCases + random.Intn(api.MaxCases)
		}
		want := pairsOf(receivers, senders)
		if got := waitlist.Pairs(receivers, senders); len(got) != min(c.receivers*c.senders, most) || !slices.Equal(got, want[:len(got)]) {
			t.Errorf("%d receivers and %d senders make %d pairs", c.receivers, c.senders, len(got))
		}
	}
}

func TestP13_3TheLimitCountsPairsOnly(t *testing.T) {
	random := rand.New(rand.NewSource(1001))
	for range 300 {
		receivers, senders := randomList(random, 20+random.Intn(40)), randomList(random, 20+random.Intn(40))
		want := pairsOf(receivers, senders)
		if got := waitlist.Pairs(receivers, senders); len(got) != min(len(want), most) || !slices.Equal(got, want[:len(got)]) {
			t.Fatalf("Pairs(%v, %v) has %d pairs, of %d", receivers, senders, len(got), len(want))
		}
	}
}

// R1 names no greatest length, and with these lists the pairs cannot all be tried one after another.
func TestP13_3LongLists(t *testing.T) {
	const length = 1 << 21
	same := make([]int, length)
	for i := range same {
		same[i] = i % api.MaxCases
	}
	if got := waitlist.Pairs(same, same); len(got) != 0 {
		t.Errorf("%d pairs of a thread with itself", len(got))
	}
	two := slices.Clone(same)
	two[length-1] = 6
	want := make([][2]int, most)
	for i := range want {
		want[i] = [2]int{same[i], 6}
	}
	if got := waitlist.Pairs(same, two); !slices.Equal(got, want) {
		t.Errorf("%d pairs, beginning with %v", len(got), got[:min(len(got), 3)])
	}
	for i := range want {
		want[i] = [2]int{6, same[i]}
	}
	if got := waitlist.Pairs(two, same); !slices.Equal(got, want) {
		t.Errorf("%d pairs, beginning with %v", len(got), got[:min(len(got), 3)])
	}
}

func TestP13_4Lower(t *testing.T) {
	for _, c := range []struct{ a, b, first, second int }{
		{0, 6, 0, 6},
		{6, 0, 0, 6},
		{5, 6, 5, 6},
		{6, 5, 5, 6},
		{47, 12, 12, 47},
		{12, 47, 12, 47},
		// Of the same thread, the first one stays the first one, whatever its case is.
		{7, 7, 7, 7},
		{6, 11, 6, 11},
		{11, 6, 11, 6},
		{5, 0, 5, 0},
		// The Thread of a negative record is -1.
		{0, -1, -1, 0},
		{-1, 0, -1, 0},
		{5, math.MinInt, math.MinInt, 5},
		{-1, -20, -1, -20},
		{-20, -1, -20, -1},
		{math.MaxInt, math.MinInt, math.MinInt, math.MaxInt},
		{math.MinInt, math.MaxInt, math.MinInt, math.MaxInt},
		{math.MaxInt, math.MaxInt - 1, math.MaxInt, math.MaxInt - 1},
		{math.MaxInt, math.MaxInt - 2, math.MaxInt - 2, math.MaxInt},
	} {
		if first, second := waitlist.Lower(c.a, c.b); first != c.first || second != c.second {
			t.Errorf("Lower(%d, %d) = %d, %d, expected %d, %d", c.a, c.b, first, second, c.first, c.second)
		}
	}
}

func TestP13_4AllRecords(t *testing.T) {
	for a := -7; a < all; a++ {
		for b := -7; b < all; b++ {
			want := [2]int{a, b}
			if threadOf(b) < threadOf(a) {
				want = [2]int{b, a}
			}
			first, second := waitlist.Lower(a, b)
			if got := [2]int{first, second}; got != want {
				t.Errorf("Lower(%d, %d) = %v, expected %v", a, b, got, want)
			}
		}
	}
}

func TestP13_5NoPairOfAThreadWithItself(t *testing.T) {
	random := rand.New(rand.NewSource(135))
	for range 5000 {
		receivers, senders := randomList(random, random.Intn(50)), randomList(random, random.Intn(50))
		pairs := waitlist.Pairs(receivers, senders)
		for _, p := range pairs {
			if waitlist.Thread(p[0]) == waitlist.Thread(p[1]) {
				t.Fatalf("the pair %v, from %v and %v", p, receivers, senders)
			}
		}
		expectFirstPair(t, receivers, senders, pairs)
	}
}

// expectFirstPair expects that the pairs begin with that of the first receiver that has a sender of another thread, and are none if there is no such receiver.
func expectFirstPair(t *testing.T, receivers, senders []int, pairs [][2]int) {
	t.Helper()
	for _, r := range receivers {
		if s, ok := waitlist.First(senders, waitlist.Thread(r)); ok {
			if len(pairs) == 0 || pairs[0] != [2]int{r, s} {
				t.Fatalf("Pairs(%v, %v) = %v, expected %d and %d first", receivers, senders, pairs, r, s)
			}
			return
		}
	}
	if len(pairs) > 0 {
		t.Fatalf("Pairs(%v, %v) = %v, expected none", receivers, senders, pairs)
	}
}

func TestTotality(t *testing.T) {
	for _, a := range far() {
		waitlist.Thread(a)
		waitlist.Case(a)
		for _, b := range far() {
			waitlist.Record(a, b)
			waitlist.Lower(a, b)
		}
		waitlist.Without(far(), a)
		waitlist.First(far(), a)
		waitlist.Without(nil, a)
		// R4: beside false there is no record.
		if got, ok := waitlist.First(nil, a); got != 0 || ok {
			t.Errorf("First of an empty list = %d, %v", got, ok)
		}
	}
	if got, want := waitlist.Pairs(far(), far()), pairsOf(far(), far()); !slices.Equal(got, want) {
		t.Errorf("Pairs = %v, expected %v", got, want)
	}
}

func TestArgumentsAreNotModified(t *testing.T) {
	receivers, senders := []int{13, 2, 7, 91, 92}, []int{3, 12, 40, 93, 94}
	r, s := receivers[:3], senders[:3]
	for thread := -1; thread <= api.MaxThreads; thread++ {
		waitlist.Without(r, thread)
		waitlist.Without(s, thread)
		waitlist.First(r, thread)
		waitlist.First(s, thread)
	}
	waitlist.Pairs(r, s)
	waitlist.Pairs(s, r)
	if !slices.Equal(receivers, []int{13, 2, 7, 91, 92}) || !slices.Equal(senders, []int{3, 12, 40, 93, 94}) {
		t.Errorf("the lists are now %v and %v", receivers, senders)
	}
}

func TestResultsAreNewMemory(t *testing.T) {
	spare := []int{13, 2, 7, 91}
	list := spare[:3]
	for thread := -1; thread <= 3; thread++ {
		got := append(waitlist.Without(list, thread), 98)
		for i := range got {
			got[i] = 99
		}
	}
	if !slices.Equal(spare, []int{13, 2, 7, 91}) {
		t.Errorf("the list is now %v", spare)
	}
	first := waitlist.Pairs(list, list)
	kept := slices.Clone(first)
	second := waitlist.Pairs(list, list)
	for i := range second {
		second[i] = [2]int{}
	}
	if !slices.Equal(first, kept) {
		t.Errorf("the pairs are now %v", first)
	}
}

func Example() {
	waiting := []int{waitlist.Record(2, 1), waitlist.Record(0, 3), waitlist.Record(2, 5)}
	fmt.Println(waiting, waitlist.Thread(17), waitlist.Case(17))
	fmt.Println(waitlist.Without(waiting, 2))
	fmt.Println(waitlist.First(waiting, 2))
	fmt.Println(waitlist.Pairs(waiting, []int{waitlist.Record(0, 0), waitlist.Record(1, 0)}))
	fmt.Println(waitlist.Lower(13, 6))
	// Output:
	// [13 3 17] 2 5
	// [3]
	// 3 true
	// [[13 0] [13 6] [3 6] [17 0] [17 6]]
	// 6 13
}
