// Package fix is layer 1: numbers in units of 1/65536, in the span from -api.Most to api.Most.
package fix

import (
	"math/bits"

	"zoetrope/api"
)

// shift is the power of two that One is. A shift to the right rounds down, where a division would round towards 0.
const shift = 16

// take is the number of the span that is nearest to a number that is handed in.
func take(a api.Fix) api.Fix { return Clamp(int64(a)) }

// Clamp is n units, held.
func Clamp(n int64) api.Fix {
	return min(max(api.Fix(n), -api.Most), api.Most)
}

// Of is a whole number, held.
func Of(n int) api.Fix {
	// Held ahead of the product, which an int of any size could overflow.
	const ends = int(api.Most / api.One)
	return api.Fix(min(max(n, -ends), ends)) * api.One
}

// Add is a sum, held.
func Add(a, b api.Fix) api.Fix { return take(take(a) + take(b)) }

// Sub is a difference, held.
func Sub(a, b api.Fix) api.Fix { return take(take(a) - take(b)) }

// Neg is the negative of a number.
func Neg(a api.Fix) api.Fix { return -take(a) }

// Abs is the amount of a number.
func Abs(a api.Fix) api.Fix {
	a = take(a)
	return max(a, -a)
}

// Sum is the sum of some numbers, from 0 on, held behind each of them.
func Sum(l ...api.Fix) api.Fix {
	var s api.Fix
	for _, a := range l {
		s = Add(s, a)
	}
	return s
}

// Mul is a product, rounded down, held.
func Mul(a, b api.Fix) api.Fix { return take(take(a) * take(b) >> shift) }

// Div is a quotient, rounded down, held; by 0 it is the end on whose side a lies.
func Div(a, b api.Fix) api.Fix {
	a, b = take(a), take(b)
	if b == 0 {
		return endOf(a)
	}
	return take(quotient(a<<shift, b))
}

// endOf is the end of the span on whose side a number lies; 0 lies on neither.
func endOf(a api.Fix) api.Fix {
	switch {
	case a > 0:
		return api.Most
	case a < 0:
		return -api.Most
	}
	return 0
}

// quotient is how many times b goes into a, rounded down.
func quotient(a, b api.Fix) api.Fix {
	q := a / b
	// Go rounds towards 0: that is too much by one, where the quotient is below 0 and something is left.
	if a%b != 0 && (a < 0) != (b < 0) {
		q--
	}
	return q
}

// Whole is a number, rounded down to a whole one.
func Whole(a api.Fix) int { return int(take(a) >> shift) }

// Part is what a number is above its Whole.
func Part(a api.Fix) api.Fix { return take(a) & (api.One - 1) }

// Unit is the number from 0 to One that is nearest.
func Unit(a api.Fix) api.Fix { return min(max(a, 0), api.One) }

// Lerp is the number as far from a to b as the Unit of t tells, rounded down.
func Lerp(a, b, t api.Fix) api.Fix {
	a, b = take(a), take(b)
	// Neither the difference nor the product may be held: they aren't results.
	return a + (b-a)*Unit(t)>>shift
}

// Root is a square root, rounded down; of what is below 0 it is 0.
func Root(a api.Fix) api.Fix {
	if a <= 0 {
		return 0
	}
	n := uint64(take(a)) << shift
	// Begun at a power of two above the root, the steps come down to it and never go below it.
	r := uint64(1) << ((bits.Len64(n) + 1) / 2)
	for {
		next := (r + n/r) / 2
		if next >= r {
			return api.Fix(r)
		}
		r = next
	}
}
