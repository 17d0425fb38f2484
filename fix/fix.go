// Package fix is layer 1: whole numbers of 64 bits that never go round. See shared/doc/01-fix.md.
package fix

import (
	"math"
	"math/bits"
)

// Add answers a sum; false: it isn't one of 64 bits with a sign.
func Add(a, b int) (int, bool) {
	sum := a + b
	// Only numbers of one sign can go round, and their sum then has the other one.
	if (a < 0) == (b < 0) && (sum < 0) != (a < 0) {
		return 0, false
	}
	return sum, true
}

// Sub answers a difference; false: it isn't one of 64 bits with a sign.
func Sub(a, b int) (int, bool) {
	less := a - b
	// Not Add(a, -b): the least number has no opposite.
	if (a < 0) != (b < 0) && (less < 0) != (a < 0) {
		return 0, false
	}
	return less, true
}

// Sat answers a sum; beyond 64 bits the greatest, or the least, number.
func Sat(a, b int) int {
	if sum, ok := Add(a, b); ok {
		return sum
	}
	// Here both have one sign, and it is the true sum's, too.
	if a > 0 {
		return math.MaxInt
	}
	return math.MinInt
}

// Size answers how great a number is, without its sign.
func Size(n int) uint64 {
	if n < 0 {
		// Turned round as a number without a sign, since the least one has no opposite.
		return -uint64(n)
	}
	return uint64(n)
}

// Floor answers a quotient, rounded down, and the rest; false: the divisor is below 1.
func Floor(a, b int) (int, int, bool) {
	if b < 1 {
		return 0, 0, false
	}
	quotient, rest := a/b, a%b
	// The language rounds towards 0, so below 0 it is one too high.
	if rest < 0 {
		quotient, rest = quotient-1, rest+b
	}
	return quotient, rest, true
}

// MulDiv answers a product's quotient, rounded down; false: the divisor is below 1, or the quotient isn't one of 64 bits with a sign.
func MulDiv(a, b, c int) (int, bool) {
	if c < 1 {
		return 0, false
	}
	high, low := bits.Mul64(Size(a), Size(b))
	// Div64 panics at a quotient of more than 64 bits.
	if high >= uint64(c) {
		return 0, false
	}
	quotient, rest := bits.Div64(high, low, uint64(c))
	if (a < 0) != (b < 0) {
		return below(quotient, rest)
	}
	if quotient > math.MaxInt {
		return 0, false
	}
	return int(quotient), true
}

// below turns the sign of a quotient, and rounds it down.
func below(quotient, rest uint64) (int, bool) {
	const most = 1 << 63
	// Looked at ahead of the rounding, since the greatest quotient would go round by it.
	if quotient > most || quotient == most && rest > 0 {
		return 0, false
	}
	if rest > 0 {
		quotient++
	}
	return int(-quotient), true
}

// Clamp answers a number, or the bound beyond which it lies; the lower one, if they are the wrong way round.
func Clamp(x, low, high int) int {
	if x < low || high < low {
		return low
	}
	if x > high {
		return high
	}
	return x
}
