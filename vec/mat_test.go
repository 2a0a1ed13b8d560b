package vec_test

import (
	"math"
	"testing"

	"zoetrope/api"
	"zoetrope/fix"
	"zoetrope/vec"
)

// isMat tells whether what a call answers is what it must be.
func isMat(t *testing.T, name string, got, want vec.Mat) {
	t.Helper()
	if got != want {
		t.Errorf("%s = %v, not %v", name, got, want)
	}
}

// mats are matrices without any order in them.
func mats() []vec.Mat {
	l := []vec.Mat{
		{}, vec.Same(), vec.Move(v(1, -2, 3)), vec.Size(-3 * one),
		{X: v(most, 1, -most), Y: v(most, -one, most), Z: v(-most, one, 5), T: v(-most, most, 7)},
		{X: v(math.MaxInt64, 1, 2), Y: v(math.MinInt64, 3, 4), Z: v(5, most+1, 6), T: v(math.MinInt64, math.MaxInt64, -most-1)},
	}
	p := points()
	for i := 0; i+3 < len(p); i += 4 {
		l = append(l, vec.Mat{X: p[i], Y: p[i+1], Z: p[i+2], T: p[i+3]})
	}
	return l
}

// stretched is where one number of a direction comes to lie behind a matrix: the sum of its three columns, each stretched, from 0 on.
func stretched(x, y, z api.Fix, a api.Vec) api.Fix {
	return fix.Add(fix.Add(fix.Add(0, fix.Mul(x, a.X)), fix.Mul(y, a.Y)), fix.Mul(z, a.Z))
}

// dirBehind is a direction behind a matrix, number by number.
func dirBehind(m vec.Mat, a api.Vec) api.Vec {
	return v(stretched(m.X.X, m.Y.X, m.Z.X, a), stretched(m.X.Y, m.Y.Y, m.Z.Y, a), stretched(m.X.Z, m.Y.Z, m.Z.Z, a))
}

// pointBehind is a point behind a matrix, number by number.
func pointBehind(m vec.Mat, a api.Vec) api.Vec {
	d := dirBehind(m, a)
	return v(fix.Add(d.X, m.T.X), fix.Add(d.Y, m.T.Y), fix.Add(d.Z, m.T.Z))
}

// timesOf is one matrix behind another one, direction by direction.
func timesOf(m, n vec.Mat) vec.Mat {
	return vec.Mat{X: dirBehind(m, n.X), Y: dirBehind(m, n.Y), Z: dirBehind(m, n.Z), T: pointBehind(m, n.T)}
}

// turned is a matrix whose numbers are all unlike, so that none can stand for another one.
func turned() vec.Mat {
	return vec.Mat{X: ones(1, 2, 3), Y: ones(4, 5, 6), Z: ones(7, 8, 10), T: ones(11, 12, 13)}
}

// P2.3
func TestSameMoveSize(t *testing.T) {
	isMat(t, "Same", vec.Same(), vec.Mat{X: ones(1, 0, 0), Y: ones(0, 1, 0), Z: ones(0, 0, 1)})
	isMat(t, "Move", vec.Move(v(1, -2, 3)), vec.Mat{X: ones(1, 0, 0), Y: ones(0, 1, 0), Z: ones(0, 0, 1), T: v(1, -2, 3)})
	isMat(t, "Move by zero", vec.Move(api.Vec{}), vec.Same())
	isMat(t, "Size", vec.Size(-5), vec.Mat{X: v(-5, 0, 0), Y: v(0, -5, 0), Z: v(0, 0, -5)})
	isMat(t, "Size of 0", vec.Size(0), vec.Mat{})
	isMat(t, "Size of One", vec.Size(one), vec.Same())
}

// P2.3
func TestDirPoint(t *testing.T) {
	a := ones(1, 10, 100)
	isVec(t, "Dir", turned().Dir(a), ones(741, 852, 1063))
	isVec(t, "Point", turned().Point(a), ones(752, 864, 1076))
	isVec(t, "Dir of Same", vec.Same().Dir(v(1, -2, 3)), v(1, -2, 3))
	isVec(t, "Point of Same", vec.Same().Point(v(1, -2, 3)), v(1, -2, 3))
	isVec(t, "Dir of Move", vec.Move(v(9, 9, 9)).Dir(v(1, -2, 3)), v(1, -2, 3))
	isVec(t, "Point of Move", vec.Move(v(9, 9, 9)).Point(v(1, -2, 3)), v(10, 7, 12))
	isVec(t, "Dir of Size", vec.Size(-2*one).Dir(v(1, -2, 3)), v(-2, 4, -6))
	isVec(t, "Dir of zeros", vec.Mat{}.Dir(v(1, 2, 3)), api.Vec{})
	isVec(t, "Point of zeros", vec.Mat{T: v(7, 8, 9)}.Point(v(1, 2, 3)), v(7, 8, 9))
	held := vec.Mat{X: v(most, most, -most), Y: v(most, -most, -most), Z: v(-most, most, most), T: v(-most, 1, most)}
	isVec(t, "Dir, held in order", held.Dir(ones(1, 1, 1)), v(0, most, 0))
	isVec(t, "Point, held in order", held.Point(ones(1, 1, 1)), v(-most, most, most))
	isVec(t, "Point of what is beyond the span", vec.Same().Point(v(math.MaxInt64, math.MinInt64, most+1)), v(most, -most, most))
	isVec(t, "Dir, rounded down stretch by stretch", vec.Mat{X: v(1, 1, 1), Y: v(1, 1, 1), Z: v(1, 1, 1)}.Dir(v(-1, -1, one/2)), v(-2, -2, -2))
	for _, m := range mats() {
		for _, a := range points() {
			if got, want := m.Dir(a), dirBehind(m, a); got != want {
				t.Fatalf("Dir of %v, %v = %v, not %v", m, a, got, want)
			}
			if got, want := m.Point(a), pointBehind(m, a); got != want {
				t.Fatalf("Point of %v, %v = %v, not %v", m, a, got, want)
			}
		}
	}
}

// P2.3
func TestTimes(t *testing.T) {
	n := vec.Mat{X: ones(0, 1, 0), Y: ones(-1, 0, 0), Z: ones(0, 0, 2), T: ones(1, 10, 100)}
	isMat(t, "Times", turned().Times(n), vec.Mat{X: ones(4, 5, 6), Y: ones(-1, -2, -3), Z: ones(14, 16, 20), T: ones(752, 864, 1076)})
	isMat(t, "Times, the other way round", n.Times(turned()), vec.Mat{X: ones(-2, 1, 6), Y: ones(-5, 4, 12), Z: ones(-8, 7, 20), T: ones(-11, 21, 126)})
	isMat(t, "Times Same", turned().Times(vec.Same()), turned())
	isMat(t, "Same Times", vec.Same().Times(turned()), turned())
	for _, m := range mats() {
		for _, n := range mats() {
			if got, want := m.Times(n), timesOf(m, n); got != want {
				t.Fatalf("%v Times %v = %v, not %v", m, n, got, want)
			}
		}
	}
}

// P2.3
func TestChain(t *testing.T) {
	isMat(t, "Chain of nothing", vec.Chain(), vec.Same())
	isMat(t, "Chain of an empty list", vec.Chain([]vec.Mat{}...), vec.Same())
	isMat(t, "Chain of one", vec.Chain(turned()), turned())
	isMat(t, "Chain of one beyond the span", vec.Chain(vec.Mat{X: v(most+1, 1, 2), T: v(math.MinInt64, 3, 4)}), vec.Mat{X: v(most, 1, 2), T: v(-most, 3, 4)})
	isMat(t, "Chain of two", vec.Chain(vec.Move(ones(1, 2, 3)), vec.Size(2*one)), vec.Mat{X: ones(2, 0, 0), Y: ones(0, 2, 0), Z: ones(0, 0, 2), T: ones(1, 2, 3)})
	isMat(t, "Chain of two, the other way round", vec.Chain(vec.Size(2*one), vec.Move(ones(1, 2, 3))), vec.Mat{X: ones(2, 0, 0), Y: ones(0, 2, 0), Z: ones(0, 0, 2), T: ones(2, 4, 6)})
	isMat(t, "Chain, from the first one on", vec.Chain(vec.Size(one/2), vec.Size(1), vec.Size(2*one)), vec.Mat{})
	isMat(t, "Chain, held from the first one on", vec.Chain(vec.Size(most), vec.Size(2*one), vec.Size(one/2)), vec.Size(most/2))
	l := mats()
	for i := 0; i+2 < len(l); i++ {
		want := timesOf(timesOf(timesOf(vec.Same(), l[i]), l[i+1]), l[i+2])
		if got := vec.Chain(l[i : i+3]...); got != want {
			t.Errorf("Chain of %v = %v, not %v", l[i:i+3], got, want)
		}
	}
}
