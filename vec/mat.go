package vec

import (
	"zoetrope/api"
)

// Mat turns, stretches and moves: X, Y, Z are where the three axes go, T is where zero goes.
type Mat struct {
	X api.Vec
	Y api.Vec
	Z api.Vec
	T api.Vec
}

// Same is the matrix that leaves all as it is.
func Same() Mat { return Size(api.One) }

// Move is the matrix that moves points.
func Move(by api.Vec) Mat {
	m := Same()
	m.T = by
	return m
}

// Size is the matrix that stretches all by s.
func Size(s api.Fix) Mat {
	return Mat{X: New(s, 0, 0), Y: New(0, s, 0), Z: New(0, 0, s)}
}

// Dir is a direction behind the matrix.
func (m Mat) Dir(a api.Vec) api.Vec {
	return Sum(Scale(m.X, a.X), Scale(m.Y, a.Y), Scale(m.Z, a.Z))
}

// Point is a point behind the matrix.
func (m Mat) Point(a api.Vec) api.Vec { return Add(m.Dir(a), m.T) }

// Times is the matrix behind which all is as behind n first, then behind m.
func (m Mat) Times(n Mat) Mat {
	return Mat{X: m.Dir(n.X), Y: m.Dir(n.Y), Z: m.Dir(n.Z), T: m.Point(n.T)}
}

// Chain is the Times of some matrices in order, from Same on.
func Chain(l ...Mat) Mat {
	m := Same()
	for _, n := range l {
		m = m.Times(n)
	}
	return m
}
