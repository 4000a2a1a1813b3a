package seqword_test

import (
	"fmt"
	"math"
	"math/big"
	"math/bits"
	"testing"

	"chanfabric/seqword"
)

const (
	last = 1<<63 - 1 // the greatest sequence number
	half = 1 << 62   // the first distance that Diff does not return
)

// sequences returns numbers at the edges of the sequence numbers, among them some with a top bit that does not count.
func sequences() []uint64 {
	list := []uint64{5, 1000003, 0x0123456789abcdef, 0x5555555555555555, 0xaaaaaaaaaaaaaaaa}
	for _, edge := range []uint64{0, 1 << 31, 1 << 32, 1 << 61, half, half + 1<<61, 1 << 63, 1<<63 + half} {
		for n := range uint64(3) {
			list = append(list, edge+n, edge-n)
		}
	}
	return list
}

// steps returns numbers at the edges of int.
func steps() []int {
	list := []int{3, -3, 1000003, -1000003, 0x0123456789abcdef, math.MinInt, math.MaxInt}
	for _, edge := range []int{0, 1 << 31, 1 << 32, 1 << 61, half, -1 << 31, -1 << 32, -1 << 61, -half, math.MinInt + 2, math.MaxInt - 2} {
		for n := range 3 {
			list = append(list, edge+n, edge-n)
		}
	}
	return list
}

// remainder returns x modulo 2^63, without integers that wrap around.
func remainder(x *big.Int) *big.Int {
	return new(big.Int).Mod(x, new(big.Int).Lsh(big.NewInt(1), 63))
}

func fromUint(x uint64) *big.Int {
	return new(big.Int).SetUint64(x)
}

func TestP1_1NextExamples(t *testing.T) {
	for _, c := range []struct {
		seq  uint64
		n    int
		want uint64
	}{
		{0, 0, 0},
		{41, 1, 42},
		{last, 1, 0},
		{last, 2, 1},
		{0, -1, last},
		{5, -7, last - 1},
		{last, math.MaxInt, last - 1},
		{0, math.MinInt, 0},
		{9, math.MinInt, 9},
		{1 << 63, 0, 0},
		{1 << 63, -1, last},
		{1<<64 - 1, 1, 0},
		{1<<64 - 1, 0, last},
	} {
		if got := seqword.Next(c.seq, c.n); got != c.want {
			t.Errorf("Next(%d, %d) = %d, expected %d", c.seq, c.n, got, c.want)
		}
	}
}

func TestP1_1NextIsTheSumModuloLimit(t *testing.T) {
	for _, seq := range sequences() {
		for _, n := range steps() {
			want := remainder(new(big.Int).Add(fromUint(seq), big.NewInt(int64(n)))).Uint64()
			if got := seqword.Next(seq, n); got != want {
				t.Errorf("Next(%d, %d) = %d, expected %d", seq, n, got, want)
			}
		}
	}
}

func TestP1_1DiffAndBeforeExamples(t *testing.T) {
	for _, c := range []struct {
		a, b uint64
		want int
	}{
		{0, 0, 0},
		{last, last, 0},
		{7, 5, 2},
		{5, 7, -2},
		{0, last, 1},
		{last, 0, -1},
		{half - 1, 0, half - 1},
		{half, 0, -half},
		{0, half, -half},
		{0, half - 1, -half + 1},
		{half + 1, 0, -half + 1},
		{0, half + 1, half - 1},
		{1 << 63, 0, 0},
		{0, 1 << 63, 0},
		{4, 1<<63 + 6, -2},
		{1<<63 + 6, 4, 2},
		{1<<64 - 1, last, 0},
	} {
		if got := seqword.Diff(c.a, c.b); got != c.want {
			t.Errorf("Diff(%d, %d) = %d, expected %d", c.a, c.b, got, c.want)
		}
		if got := seqword.Before(c.a, c.b); got != (c.want < 0) {
			t.Errorf("Before(%d, %d) = %v, but Diff is %d", c.a, c.b, got, c.want)
		}
	}
}

func TestP1_1DiffLeadsFromBToA(t *testing.T) {
	for _, a := range sequences() {
		for _, b := range sequences() {
			d := seqword.Diff(a, b)
			if d < -half || d > half-1 {
				t.Errorf("Diff(%d, %d) = %d is out of range", a, b, d)
			}
			sum := new(big.Int).Add(fromUint(b), big.NewInt(int64(d)))
			if remainder(sum).Cmp(remainder(fromUint(a))) != 0 {
				t.Errorf("Diff(%d, %d) = %d does not lead from b to a", a, b, d)
			}
			if got := seqword.Before(a, b); got != (d < 0) {
				t.Errorf("Before(%d, %d) = %v, but Diff is %d", a, b, got, d)
			}
		}
	}
}

func TestLimit(t *testing.T) {
	// Limit does not fit into an int, so this compiles only while it is a constant without a type.
	const quarter int = seqword.Limit / 4
	if quarter != 1<<61 || uint64(seqword.Limit) != 1<<63 {
		t.Errorf("Limit = %d", uint64(seqword.Limit))
	}
}

func TestP1_2TailWords(t *testing.T) {
	for _, c := range []struct {
		seq    uint64
		closed bool
		want   uint64
	}{
		{0, false, 0},
		{0, true, 1},
		{3, false, 6},
		{3, true, 7},
		{half, false, 1 << 63},
		{last, false, 1<<64 - 2},
		{last, true, 1<<64 - 1},
		{1 << 63, false, 0},
		{1 << 63, true, 1},
		{1<<63 + 3, true, 7},
		{1<<64 - 1, false, 1<<64 - 2},
	} {
		if got := seqword.Pack(c.seq, c.closed); got != c.want {
			t.Errorf("Pack(%d, %v) = %d, expected %d", c.seq, c.closed, got, c.want)
		}
	}
}

func TestP1_2Parts(t *testing.T) {
	for _, c := range []struct {
		word, seq uint64
		closed    bool
	}{
		{0, 0, false},
		{1, 0, true},
		{2, 1, false},
		{6, 3, false},
		{7, 3, true},
		{1 << 63, half, false},
		{1<<64 - 2, last, false},
		{1<<64 - 1, last, true},
	} {
		if got := seqword.Seq(c.word); got != c.seq {
			t.Errorf("Seq(%d) = %d, expected %d", c.word, got, c.seq)
		}
		if got := seqword.Closed(c.word); got != c.closed {
			t.Errorf("Closed(%d) = %v, expected %v", c.word, got, c.closed)
		}
	}
}

func TestP1_3SizeExamples(t *testing.T) {
	for _, c := range []struct{ capacity, want int }{
		{math.MinInt, 1},
		{-1, 1},
		{0, 1},
		{1, 2},
		{2, 2},
		{3, 4},
		{4, 4},
		{5, 8},
		{8, 8},
		{9, 16},
		{16, 16},
		{1<<29 + 1, 1 << 30},
		{1 << 30, 1 << 30},
		{1<<30 + 1, 0},
		{1 << 31, 0},
		{1 << 62, 0},
		{math.MaxInt, 0},
	} {
		if got := seqword.Size(c.capacity); got != c.want {
			t.Errorf("Size(%d) = %d, expected %d", c.capacity, got, c.want)
		}
	}
}

func TestP1_3SizeIsTheLeastPowerOfTwo(t *testing.T) {
	check := func(capacity int) {
		size := seqword.Size(capacity)
		if bits.OnesCount(uint(size)) != 1 || size < capacity || size/2 >= capacity {
			t.Errorf("Size(%d) = %d", capacity, size)
		}
	}
	for capacity := 2; capacity <= 1<<12; capacity++ {
		check(capacity)
	}
	for exponent := 12; exponent < 30; exponent++ {
		check(1<<exponent - 1)
		check(1 << exponent)
		check(1<<exponent + 1)
	}
	check(1<<30 - 1)
	check(1 << 30)
}

func TestP1_3SlotExamples(t *testing.T) {
	for _, c := range []struct {
		seq        uint64
		size, want int
	}{
		{0, 1, 0},
		{12, 1, 0},
		{5, 2, 1},
		{5, 4, 1},
		{7, 8, 7},
		{8, 8, 0},
		{7, 3, 1},
		{last, 8, 7},
		{last, 10, 7},
		{last, math.MaxInt, 0},
		{last - 1, math.MaxInt, last - 1},
		{1 << 63, 8, 0},
		{1 << 63, 3, 0},
		{1<<63 + 10, 3, 1},
		{1<<64 - 1, half, half - 1},
		{7, 0, 0},
		{7, -1, 0},
		{last, -8, 0},
		{7, math.MinInt, 0},
	} {
		if got := seqword.Slot(c.seq, c.size); got != c.want {
			t.Errorf("Slot(%d, %d) = %d, expected %d", c.seq, c.size, got, c.want)
		}
	}
}

func TestP1_3SlotIsTheRemainder(t *testing.T) {
	for _, seq := range sequences() {
		for _, size := range steps() {
			want := 0
			if size >= 1 {
				want = int(new(big.Int).Mod(remainder(fromUint(seq)), big.NewInt(int64(size))).Int64())
			}
			if got := seqword.Slot(seq, size); got != want {
				t.Errorf("Slot(%d, %d) = %d, expected %d", seq, size, got, want)
			}
		}
	}
}

func TestP1_4DiffIsTheInverseOfNext(t *testing.T) {
	for _, a := range sequences() {
		for _, n := range steps() {
			if n < -half || n > half-1 {
				continue
			}
			if got := seqword.Diff(seqword.Next(a, n), a); got != n {
				t.Errorf("Diff(Next(%d, %d), %d) = %d", a, n, a, got)
			}
		}
	}
}

func TestP1_4StepsAddUp(t *testing.T) {
	for _, a := range sequences() {
		for _, n := range steps() {
			for _, m := range steps() {
				if (m > 0 && n > math.MaxInt-m) || (m < 0 && n < math.MinInt-m) {
					continue
				}
				if got, want := seqword.Next(seqword.Next(a, n), m), seqword.Next(a, n+m); got != want {
					t.Errorf("Next(Next(%d, %d), %d) = %d, expected %d", a, n, m, got, want)
				}
			}
		}
	}
}

func TestP1_4PackIsTheInverseOfSeqAndClosed(t *testing.T) {
	for _, number := range sequences() {
		if got := seqword.Pack(seqword.Seq(number), seqword.Closed(number)); got != number {
			t.Errorf("the parts of the word %d pack to %d", number, got)
		}
		for _, closed := range []bool{false, true} {
			word := seqword.Pack(number, closed)
			if got := seqword.Seq(word); got != number%seqword.Limit {
				t.Errorf("Seq(Pack(%d, %v)) = %d", number, closed, got)
			}
			if got := seqword.Closed(word); got != closed {
				t.Errorf("Closed(Pack(%d, %v)) = %v", number, closed, got)
			}
		}
	}
}

func TestP1_4TheNextNumberHasTheNextSlot(t *testing.T) {
	for exponent := range 63 {
		size := 1 << exponent
		for _, seq := range sequences() {
			want := seqword.Slot(seq, size) + 1
			if want == size {
				want = 0
			}
			if got := seqword.Slot(seqword.Next(seq, 1), size); got != want {
				t.Errorf("behind %d comes slot %d of %d, expected %d", seq, got, size, want)
			}
		}
	}
}

func Example() {
	const last = seqword.Limit - 1
	fmt.Println(seqword.Next(last, 1), seqword.Diff(0, last), seqword.Before(last, 0))
	word := seqword.Pack(3, true)
	fmt.Println(word, seqword.Seq(word), seqword.Closed(word))
	fmt.Println(seqword.Size(1), seqword.Size(5), seqword.Slot(last, seqword.Size(5)))
	// Output:
	// 0 1 true
	// 7 3 true
	// 2 8 7
}
