package datum

import (
	"math"
	"math/bits"

	"treadle/api"
)

// reckon is what comes of two integers; how also tells whether that is within 64 digits.
func reckon(how func(x, y int64) (int64, bool), a, b api.Value) (api.Value, api.Errno) {
	x, isX := checked(a).(integer)
	y, isY := checked(b).(integer)
	if !isX || !isY {
		return api.Value{}, api.ErrKind
	}
	z, within := how(int64(x), int64(y))
	if !within {
		return api.Value{}, api.ErrRange
	}
	return integer(z).value(), api.OK
}

// sum is x + y: what has wrapped round lies on the wrong side of x.
func sum(x, y int64) (int64, bool) {
	z := x + y
	return z, (z > x) == (y > 0)
}

// difference is x - y, told as a sum is.
func difference(x, y int64) (int64, bool) {
	z := x - y
	return z, (z < x) == (y > 0)
}

// product is x times y, reckoned without signs, as the least integer has no counterpart above 0.
func product(x, y int64) (int64, bool) {
	high, low := bits.Mul64(size(x), size(y))
	if (x < 0) == (y < 0) {
		return int64(low), high == 0 && low <= math.MaxInt64
	}
	return -int64(low), high == 0 && low <= math.MaxInt64+1
}

// size is x without its sign.
func size(x int64) uint64 {
	if x < 0 {
		return -uint64(x)
	}
	return uint64(x)
}
