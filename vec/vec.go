// Package vec is layer 2: points and directions of three numbers, and matrices that turn, stretch and move them.
package vec

import (
	"zoetrope/api"
	"zoetrope/fix"
)

// each does the same to each pair of numbers of two points.
func each(a, b api.Vec, do func(x, y api.Fix) api.Fix) api.Vec {
	return api.Vec{X: do(a.X, b.X), Y: do(a.Y, b.Y), Z: do(a.Z, b.Z)}
}

// fold does the same to each pair of numbers of what has come out so far, from a on, and the next point.
func fold(a api.Vec, l []api.Vec, do func(x, y api.Fix) api.Fix) api.Vec {
	for _, b := range l {
		a = each(a, b, do)
	}
	return a
}

// New is a point of three numbers, as they are.
func New(x, y, z api.Fix) api.Vec { return api.Vec{X: x, Y: y, Z: z} }

// Add is a sum, number by number.
func Add(a, b api.Vec) api.Vec { return each(a, b, fix.Add) }

// Sub is a difference, number by number.
func Sub(a, b api.Vec) api.Vec { return each(a, b, fix.Sub) }

// Neg is the difference of zero and a point.
func Neg(a api.Vec) api.Vec { return Sub(api.Vec{}, a) }

// Scale is a point, each of its numbers stretched by s.
func Scale(a api.Vec, s api.Fix) api.Vec { return each(a, New(s, s, s), fix.Mul) }

// Mix is as far from a to b as t tells.
func Mix(a, b api.Vec, t api.Fix) api.Vec {
	return each(a, b, func(x, y api.Fix) api.Fix { return fix.Lerp(x, y, t) })
}

// Sum is the sum of some points, from zero on, held behind each of them.
func Sum(l ...api.Vec) api.Vec { return fold(api.Vec{}, l, fix.Add) }

// Least is of each axis the least number of some points, as it is.
func Least(a api.Vec, l ...api.Vec) api.Vec {
	return fold(a, l, func(x, y api.Fix) api.Fix { return min(x, y) })
}

// Greatest is of each axis the greatest number of some points, as it is.
func Greatest(a api.Vec, l ...api.Vec) api.Vec {
	return fold(a, l, func(x, y api.Fix) api.Fix { return max(x, y) })
}

// Dot is the inner product of two directions.
func Dot(a, b api.Vec) api.Fix {
	p := each(a, b, fix.Mul)
	return fix.Sum(p.X, p.Y, p.Z)
}

// Cross is the outer product of two directions.
func Cross(a, b api.Vec) api.Vec {
	return Sub(
		each(New(a.Y, a.Z, a.X), New(b.Z, b.X, b.Y), fix.Mul),
		each(New(a.Z, a.X, a.Y), New(b.Y, b.Z, b.X), fix.Mul),
	)
}

// Len is how long a direction is.
func Len(a api.Vec) api.Fix { return fix.Root(Dot(a, a)) }

// Unit is a direction, by its length; one without a length is zero.
func Unit(a api.Vec) api.Vec {
	n := Len(a)
	if n == 0 {
		return api.Vec{}
	}
	return each(a, New(n, n, n), fix.Div)
}

// At is the number along an axis.
func At(a api.Vec, axis int) api.Fix {
	switch axis {
	case 0:
		return a.X
	case 1:
		return a.Y
	}
	return a.Z
}

// Widest is the first axis whose amount none exceeds.
func Widest(a api.Vec) int {
	x, y, z := fix.Abs(a.X), fix.Abs(a.Y), fix.Abs(a.Z)
	switch max(x, y, z) {
	case x:
		return 0
	case y:
		return 1
	}
	return 2
}
