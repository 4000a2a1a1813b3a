// Package seqword is layer 1 (sequence numbers and tail words).
package seqword

// Limit is the number of sequence numbers.
const Limit = 1 << 63

// Of a number of 64 bits, mask keeps the lower 63, which are the sequence number.
const mask uint64 = Limit - 1

const closedBit uint64 = 1

// A ring has at most largestRing slots.
const largestRing = 1 << 30

// Next returns the sequence number seq + n modulo 2^63. Sums that wrap around at 2^64 are right because 2^63 divides 2^64.
func Next(seq uint64, n int) uint64 {
	return (seq + uint64(n)) & mask
}

// Diff returns the number d from -2^62 to 2^62 - 1 for which b + d is a modulo 2^63.
func Diff(a, b uint64) int {
	// The shift to the left moves the top bit of the 63 into the place of the sign, and the one back repeats it.
	return int(int64((a-b)<<1) >> 1)
}

// Before reports whether Diff(a, b) is less than 0.
func Before(a, b uint64) bool {
	return Diff(a, b) < 0
}

// Pack returns the tail word of a sequence number and a closed bit.
func Pack(seq uint64, closed bool) uint64 {
	word := seq << 1
	if closed {
		word |= closedBit
	}
	return word
}

// Seq returns the sequence number of a tail word.
func Seq(word uint64) uint64 {
	return word >> 1
}

// Closed reports whether the closed bit of a tail word is set.
func Closed(word uint64) bool {
	return word&closedBit != 0
}

// Slot returns the slot of a sequence number in a ring of size slots, and 0 if size is less than 1.
func Slot(seq uint64, size int) int {
	if size < 1 {
		return 0
	}
	return int((seq & mask) % uint64(size))
}

// Size returns the number of slots of the ring for a capacity, and 0 if the capacity is greater than 2^30.
func Size(capacity int) int {
	switch {
	case capacity < 1:
		return 1
	case capacity == 1:
		// With one slot, the sequence word 1 would mean both that the slot contains value 0 and that it is free for value 1.
		return 2
	case capacity > largestRing:
		return 0
	}
	size := 2
	for size < capacity {
		size <<= 1
	}
	return size
}
