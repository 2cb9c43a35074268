// Package sum is layer 1: sums that tell spoilt bytes; see shared/doc/01-sum.md.
package sum

// Both parts go round at a number above 255, so that no two bytes count the same.
const (
	round = 65521
	none  = 1 // the sum of no bytes
)

// Sum is the sum of bytes.
func Sum(b []byte) uint32 {
	return More(none, b)
}

// More is the sum of some bytes, of theirs, and b behind them.
func More(sum uint32, b []byte) uint32 {
	if !May(sum) {
		return sum
	}
	low, high := parts(sum)
	for _, x := range b {
		low = (low + uint32(x)) % round
		high = (high + low) % round
	}
	return whole(low, high)
}

// Join is the sum of some bytes and n others behind them, of both their sums.
func Join(a, b uint32, n int) uint32 {
	if n < 1 || !May(a) || !May(b) {
		return a
	}
	lowA, highA := parts(a)
	lowB, highB := parts(b)
	// A whole round ahead of taking 1 away keeps what is left from going below 0.
	less := (lowA + round - 1) % round
	// The number goes round first, so that the product stays within 32 bits.
	times := uint32(n%round) * less % round
	return whole((less+lowB)%round, (highA+highB+times)%round)
}

// May tells whether both parts of a sum are what bytes' parts can be.
func May(sum uint32) bool {
	low, high := parts(sum)
	return low < round && high < round
}

// parts are a sum's low and high part.
func parts(sum uint32) (uint32, uint32) {
	return sum & 0xffff, sum >> 16
}

// whole is the sum of these parts.
func whole(low, high uint32) uint32 {
	return high<<16 | low
}
