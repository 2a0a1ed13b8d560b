package ray

import (
	"zoetrope/api"
	"zoetrope/box"
	"zoetrope/fix"
	"zoetrope/pose"
	"zoetrope/scene"
	"zoetrope/vec"
)

// Test is where a ray meets a moving shape, behind near, up to far.
func (r Ray) Test(m pose.Moving, near, far api.Fix) (Hit, bool) {
	w := window{near: near, far: far, shape: m.At(r.Part)}
	if w.shape.Kind == scene.Ball {
		return r.testBall(w)
	}
	return r.testFace(w)
}

// window is where a ray may meet a shape: behind near, up to far, and in the box about where the shape is at the ray's part.
type window struct {
	near  api.Fix
	far   api.Fix
	shape pose.Placed
}

// shows says whether a ray's point, so far on, may be a hit.
func (w window) shows(r Ray, t api.Fix) bool {
	return t > w.near && t <= w.far && box.Around(w.shape).Has(r.At(t))
}

// hit is a ray's hit so far on; a normal that looks along with the ray is turned round.
func (r Ray) hit(t api.Fix, normal api.Vec) Hit {
	if vec.Dot(normal, r.Dir) > 0 {
		normal = vec.Neg(normal)
	}
	return Hit{T: t, Point: r.At(t), Normal: normal}
}

// testBall is where a ray meets a ball: at the first of its roots that shows.
func (r Ray) testBall(w window) (Hit, bool) {
	middle := w.shape.P[0]
	l, ok := r.roots(middle, w.shape.Radius)
	if !ok {
		return Hit{}, false
	}
	for _, t := range l {
		if w.shows(r, t) {
			return r.hit(t, vec.Unit(vec.Sub(r.At(t), middle))), true
		}
	}
	return Hit{}, false
}

// roots are how far on a ray goes into a ball and out of it, if it does; the first one is never the farther one.
func (r Ray) roots(middle api.Vec, radius api.Fix) ([2]api.Fix, bool) {
	f := vec.Sub(r.From, middle)
	a, b := vec.Dot(r.Dir, r.Dir), vec.Dot(f, r.Dir)
	d := fix.Sub(vec.Dot(f, f), fix.Mul(radius, radius))
	u := fix.Sub(fix.Mul(b, b), fix.Mul(a, d))
	if u < 0 || a == 0 {
		return [2]api.Fix{}, false
	}
	w := fix.Root(u)
	return [2]api.Fix{fix.Div(fix.Sub(fix.Neg(b), w), a), fix.Div(fix.Sub(w, b), a)}, true
}

// testFace is where a ray meets a face; u and v tell how far along the two edges of its first corner that is.
func (r Ray) testFace(w window) (Hit, bool) {
	corner := w.shape.P[0]
	e, g := vec.Sub(w.shape.P[1], corner), vec.Sub(w.shape.P[2], corner)
	x := vec.Cross(r.Dir, g)
	y := vec.Dot(e, x)
	if y == 0 {
		return Hit{}, false
	}
	f := vec.Sub(r.From, corner)
	z := vec.Cross(f, e)
	u, v := fix.Div(vec.Dot(f, x), y), fix.Div(vec.Dot(r.Dir, z), y)
	if u < 0 || v < 0 || fix.Add(u, v) > api.One {
		return Hit{}, false
	}
	t := fix.Div(vec.Dot(g, z), y)
	if !w.shows(r, t) {
		return Hit{}, false
	}
	return r.hit(t, vec.Unit(vec.Cross(e, g))), true
}
