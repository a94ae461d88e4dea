// Package safe is layer 1, checked arithmetic on int64 values: a result that does not fit an int64 is an error, and nothing wraps around. See shared/doc/01-safe.md.
package safe

import (
	"math"
	"math/bits"

	"noonmark/api"
)

// Add returns a + b, or ErrOver if the sum does not fit.
func Add(a, b int64) (int64, api.Errno) {
	sum := a + b
	// The sum wrapped around if both terms have the sign that it has not.
	if (a^sum)&(b^sum) < 0 {
		return 0, api.ErrOver
	}
	return sum, api.OK
}

// Sub returns a - b, or ErrOver if the difference does not fit.
func Sub(a, b int64) (int64, api.Errno) {
	diff := a - b
	// The difference wrapped around if a has neither b's sign nor its own.
	if (a^b)&(a^diff) < 0 {
		return 0, api.ErrOver
	}
	return diff, api.OK
}

// Mul returns a * b, or ErrOver if the product does not fit.
func Mul(a, b int64) (int64, api.Errno) {
	hi, lo := bits.Mul64(size(a), size(b))
	if hi != 0 {
		return 0, api.ErrOver
	}
	return signed((a < 0) != (b < 0), lo)
}

// Sum returns the total of the list, or ErrOver if that total does not fit; partial sums may be of any size.
func Sum(list ...int64) (int64, api.Errno) {
	// hi and lo are one number of 128 bits in two's complement, which no list is long enough to exceed.
	var hi, lo uint64
	for _, v := range list {
		var carry uint64
		lo, carry = bits.Add64(lo, uint64(v), 0)
		hi, _ = bits.Add64(hi, uint64(v>>63), carry)
	}
	total := int64(lo)
	if int64(hi) != total>>63 {
		return 0, api.ErrOver
	}
	return total, api.OK
}

// Ratio returns a * b / c, rounded towards positive infinity if up is true and towards negative infinity otherwise; ErrRange if c is less than 1, then ErrOver if the rounded quotient does not fit.
func Ratio(a, b, c int64, up bool) (int64, api.Errno) {
	if c < 1 {
		return 0, api.ErrRange
	}
	negative := (a < 0) != (b < 0)
	hi, lo := bits.Mul64(size(a), size(b))
	if hi >= uint64(c) { // the quotient has more than 64 bits, which Div64 does not take
		return 0, api.ErrOver
	}
	quo, rem := bits.Div64(hi, lo, uint64(c))
	if rem != 0 && negative != up { // rounding goes away from zero
		if quo == math.MaxUint64 {
			return 0, api.ErrOver
		}
		quo++
	}
	return signed(negative, quo)
}

// Clamp returns the greater of x and least, or most if that is smaller.
func Clamp(x, least, most int64) int64 {
	return min(max(x, least), most)
}

// size returns how far v is from zero, which fits a uint64 even for the least int64.
func size(v int64) uint64 {
	if v < 0 {
		return -uint64(v)
	}
	return uint64(v)
}

// signed returns the number that is n away from zero, on the negative side if so asked, or ErrOver if it does not fit.
func signed(negative bool, n uint64) (int64, api.Errno) {
	if negative && n <= 1<<63 {
		return int64(-n), api.OK
	}
	if !negative && n <= math.MaxInt64 {
		return int64(n), api.OK
	}
	return 0, api.ErrOver
}
