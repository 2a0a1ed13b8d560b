package ray_test

import (
	"math"
	"slices"
	"testing"

	"zoetrope/api"
	"zoetrope/box"
	"zoetrope/fix"
	"zoetrope/pose"
	"zoetrope/ray"
	"zoetrope/scene"
	"zoetrope/vec"
)

// The calls, with the signatures that the chapter tells.
var (
	_ func(ray.Ray, api.Fix) api.Vec                                      = ray.Ray.At
	_ func(r ray.Ray, a, b api.Fix) box.Box                               = ray.Ray.Span
	_ func(h, g ray.Hit) bool                                             = ray.Hit.Before
	_ func(r ray.Ray, m pose.Moving, near, far api.Fix) (ray.Hit, bool)   = ray.Ray.Test
	_ func(r ray.Ray, l []pose.Moving, near, far api.Fix) (ray.Hit, bool) = ray.Ray.Scan
	_ func(d, n api.Vec) api.Vec                                          = ray.Mirrored
	_ [1024]struct{}                                                      = [ray.Near]struct{}{}
	_ struct {
		From, Dir api.Vec
		Part      api.Fix
	} = ray.Ray{}
	_ struct {
		T             api.Fix
		Shape         int
		Point, Normal api.Vec
	} = ray.Hit{}
)

const (
	one  = api.One
	most = api.Most
)

// v is a point of three numbers, in units.
func v(x, y, z api.Fix) api.Vec { return api.Vec{X: x, Y: y, Z: z} }

// ones is a point of three whole numbers.
func ones(x, y, z api.Fix) api.Vec { return v(x*one, y*one, z*one) }

// from is a ray that looks as a shutter opens.
func from(a, dir api.Vec) ray.Ray { return ray.Ray{From: a, Dir: dir} }

// hit is a hit of a shape alone, whose number is 0.
func hit(t api.Fix, point, normal api.Vec) ray.Hit {
	return ray.Hit{T: t, Point: point, Normal: normal}
}

// ball and face are shapes in the world.
func ball(middle api.Vec, radius api.Fix) pose.Placed {
	return pose.Placed{Kind: scene.Ball, P: [3]api.Vec{middle}, Radius: radius}
}

func face(p, q, r api.Vec) pose.Placed { return pose.Placed{Kind: scene.Face, P: [3]api.Vec{p, q, r}} }

// still is a shape that doesn't move.
func still(p pose.Placed) pose.Moving { return pose.Moving{A: p, B: p} }

// draw is a list of numbers without any order in them, the same ones in every run.
type draw uint64

// below is the next of them, from 0 on, below n.
func (d *draw) below(n int) int {
	*d = *d*6364136223846793005 + 1442695040888963407
	return int(uint64(*d) >> 32 % uint64(n))
}

// between is the next of them, from one end to the other.
func (d *draw) between(from, to api.Fix) api.Fix { return from + api.Fix(d.below(int(to-from+1))) }

// point is a point of the next of them.
func (d *draw) point(far api.Fix) api.Vec {
	return v(d.between(-far, far), d.between(-far, far), d.between(-far, far))
}

// about is a point not far from another one.
func (d *draw) about(a api.Vec, far api.Fix) api.Vec { return vec.Add(a, d.point(far)) }

// places are how far on one may ask for, in order, those beyond the span too.
func places() []api.Fix {
	return []api.Fix{math.MinInt64, -most - 1, -most, -7*one - 3, -one, -1, 0, 1, ray.Near, one / 3, one - 1, one, 3*one + 7, 90 * one, most - 1, most, most + 1, math.MaxInt64}
}

// rays are those at the edges and some more, of all sizes.
func rays() []ray.Ray {
	l := []ray.Ray{
		{}, from(ones(0, 0, -4), ones(0, 0, 1)), from(ones(1, 2, 3), api.Vec{}), from(v(most, -most, 1), v(-most, most, -1)),
		from(v(math.MaxInt64, math.MinInt64, most+1), v(math.MinInt64, math.MaxInt64, -most-1)),
	}
	d := draw(12)
	for range 40 {
		l = append(l, ray.Ray{From: d.point(one << d.below(15)), Dir: d.point(16 << d.below(27)), Part: d.between(-9, one+9)})
	}
	return l
}

// P12.1
func TestAt(t *testing.T) {
	r := from(ones(1, -2, 3), v(one, -one/2, 3))
	rows := []struct {
		r    ray.Ray
		t    api.Fix
		want api.Vec
	}{
		{r, 0, ones(1, -2, 3)}, {r, one, v(2*one, -2*one-one/2, 3*one+3)}, {r, 4 * one, v(5*one, -4*one, 3*one+12)}, {r, -one, v(0, -one-one/2, 3*one-3)},
		{r, 1, v(one+1, -2*one-1, 3*one)}, {r, -1, v(one-1, -2*one, 3*one-1)}, {r, one / 2, v(one+one/2, -2*one-one/4, 3*one+1)},
		{r, most, v(most, -2*one-most/2, 3*one+3*32768)}, {r, math.MaxInt64, v(most, -2*one-most/2, 3*one+3*32768)}, {r, math.MinInt64, v(one-most, most/2-2*one, 3*one-3*32768)},
		{from(v(-9, 9, 0), ones(3, -3, 1)), most, v(most-9, 9-most, most)},
		{from(v(math.MaxInt64, -most-5, 0), v(-1, math.MaxInt64, math.MinInt64)), one, v(most-1, 0, -most)},
	}
	for _, x := range rows {
		if got := x.r.At(x.t); got != x.want {
			t.Errorf("%v, %d on: %v, not %v", x.r, x.t, got, x.want)
		}
	}
	for _, r := range rays() {
		for _, n := range places() {
			a, d := r.From, r.Dir
			want := v(fix.Add(a.X, fix.Mul(d.X, n)), fix.Add(a.Y, fix.Mul(d.Y, n)), fix.Add(a.Z, fix.Mul(d.Z, n)))
			r.Part++
			if got := r.At(n); got != want {
				t.Errorf("%v, %d on: %v, not %v", r, n, got, want)
			}
		}
	}
}

// P12.1
func TestSpan(t *testing.T) {
	r := from(ones(1, -2, 3), ones(1, -2, 0))
	want := box.Box{Low: ones(2, -12, 3), High: ones(6, -4, 3)}
	if r.Span(one, 5*one) != want || r.Span(5*one, one) != want {
		t.Errorf("from 1 to 5: %v, from 5 to 1: %v", r.Span(one, 5*one), r.Span(5*one, one))
	}
	if got := r.Span(one, one); got != (box.Box{Low: ones(2, -4, 3), High: ones(2, -4, 3)}) {
		t.Errorf("from 1 to 1: %v", got)
	}
	if got := r.Span(0, most); got != (box.Box{Low: v(one, -most, 3*one), High: v(most, -2*one, 3*one)}) {
		t.Errorf("from 0 to Most: %v", got)
	}
}

// P12.1, P12.3: a span is the box of its ends, and holds each point between them.
func TestSpanHoldsItsPoints(t *testing.T) {
	l := places()
	d := draw(4)
	for _, r := range rays() {
		for i, a := range l {
			for _, b := range l[i:] {
				s := r.Span(a, b)
				if s != box.Of(r.At(a), r.At(b)) || s != r.Span(b, a) {
					t.Fatalf("%v, from %d to %d: %v", r, a, b, s)
				}
				from, to := max(a, -most), min(b, most)
				if from > to {
					continue
				}
				for range 6 {
					n := d.between(from, to)
					if !s.Has(r.At(n)) {
						t.Fatalf("%v, from %d to %d: %v hasn't the point %d on", r, a, b, s, n)
					}
				}
			}
		}
	}
}

// P12.1: the place counts first, then the number of the shape; nothing else does.
func TestBefore(t *testing.T) {
	rows := []struct {
		a, b ray.Hit
		want bool
	}{
		{ray.Hit{}, ray.Hit{}, false}, {ray.Hit{T: 1}, ray.Hit{T: 2}, true}, {ray.Hit{T: 2}, ray.Hit{T: 1}, false},
		{ray.Hit{T: 1, Shape: 9}, ray.Hit{T: 2, Shape: 3}, true}, {ray.Hit{T: 2, Shape: 3}, ray.Hit{T: 1, Shape: 9}, false},
		{ray.Hit{T: 1, Shape: 3}, ray.Hit{T: 1, Shape: 9}, true}, {ray.Hit{T: 1, Shape: 9}, ray.Hit{T: 1, Shape: 3}, false}, {ray.Hit{T: 1, Shape: 3}, ray.Hit{T: 1, Shape: 3}, false},
		{ray.Hit{T: -1}, ray.Hit{}, true}, {ray.Hit{T: math.MinInt64}, ray.Hit{T: math.MaxInt64}, true}, {ray.Hit{T: math.MaxInt64}, ray.Hit{T: math.MinInt64}, false},
		{ray.Hit{T: most + 1}, ray.Hit{T: most + 2}, true}, {ray.Hit{Shape: math.MinInt}, ray.Hit{Shape: math.MaxInt}, true}, {ray.Hit{Shape: math.MaxInt}, ray.Hit{Shape: math.MinInt}, false},
		{hit(1, ones(1, 1, 1), v(0, 0, 0)), hit(1, v(0, 0, 0), ones(1, 1, 1)), false}, {hit(1, v(0, 0, 0), ones(1, 1, 1)), hit(1, ones(1, 1, 1), v(0, 0, 0)), false},
	}
	for _, r := range rows {
		if got := r.a.Before(r.b); got != r.want {
			t.Errorf("%v ahead of %v: %v", r.a, r.b, got)
		}
	}
}

// P12.1
func TestMirrored(t *testing.T) {
	rows := []struct{ d, n, want api.Vec }{
		{ones(1, -1, 0), ones(0, 1, 0), ones(1, 1, 0)}, {ones(1, -1, 0), ones(0, -1, 0), ones(1, 1, 0)}, {ones(1, 2, 3), ones(0, 1, 0), ones(1, -2, 3)}, {ones(3, 0, 4), ones(0, 1, 0), ones(3, 0, 4)},
		{ones(0, 0, 1), ones(0, 0, -1), ones(0, 0, -1)}, {ones(1, 2, 3), v(0, 0, 0), ones(1, 2, 3)}, {v(0, 0, 0), ones(0, 1, 0), v(0, 0, 0)},
		{ones(1, 2, 3), v(one/2, 0, 0), v(one/2, 2*one, 3*one)}, {ones(1, 1, 1), ones(1, 1, 0), ones(-3, -3, 1)},
		{v(1, 0, 0), v(one/2, 0, 0), v(1, 0, 0)}, {v(-1, 0, 0), v(one/2, 0, 0), v(0, 0, 0)}, {v(-1, 0, 0), v(-one/2, 0, 0), v(-1, 0, 0)}, {v(3, 0, 0), v(one/2, 1, -1), v(2, 0, 1)},
		{ones(20000, 0, 0), ones(1, 0, 0), ones(-12768, 0, 0)}, {ones(300, 0, 0), ones(300, 0, 0), v(300*one-most, 0, 0)}, {ones(-300, 0, 7), ones(300, 0, 0), v(most-300*one, 0, 7*one)},
		{v(math.MaxInt64, math.MinInt64, 0), v(1, 0, 0), v(most-1, -most, 0)}, {v(math.MinInt64, 0, 0), v(math.MaxInt64, 0, 0), v(0, 0, 0)},
	}
	for _, r := range rows {
		if got := ray.Mirrored(r.d, r.n); got != r.want {
			t.Errorf("%v mirrored by %v: %v, not %v", r.d, r.n, got, r.want)
		}
	}
	d := draw(9)
	for range 500 {
		a, n := d.point(one<<d.below(15)), d.point(one<<d.below(15)>>8)
		by := fix.Mul(2*one, fix.Sum(fix.Mul(a.X, n.X), fix.Mul(a.Y, n.Y), fix.Mul(a.Z, n.Z)))
		want := v(fix.Sub(a.X, fix.Mul(n.X, by)), fix.Sub(a.Y, fix.Mul(n.Y, by)), fix.Sub(a.Z, fix.Mul(n.Z, by)))
		if got := ray.Mirrored(a, n); got != want {
			t.Errorf("%v mirrored by %v: %v, not %v", a, n, got, want)
		}
	}
}

// P12.2: the least place, of several the least number, whichever stands first.
func TestScan(t *testing.T) {
	r := from(ones(0, 0, -4), ones(0, 0, 1))
	near, mid, far := still(ball(ones(0, 0, 0), one)), still(ball(ones(0, 0, 2), one)), still(ball(ones(0, 0, 9), one))
	wall := still(face(ones(-2, -2, -1), ones(2, -2, -1), ones(0, 2, -1)))
	beside, behind := still(ball(ones(9, 0, 0), one)), still(ball(ones(0, 0, -9), one))
	atBall := hit(3*one, ones(0, 0, -1), ones(0, 0, -1))
	numbered := func(h ray.Hit, n int) ray.Hit {
		h.Shape = n
		return h
	}
	rows := []struct {
		l    []pose.Moving
		want ray.Hit
		ok   bool
	}{
		{nil, ray.Hit{}, false}, {[]pose.Moving{}, ray.Hit{}, false}, {[]pose.Moving{beside, behind}, ray.Hit{}, false},
		{[]pose.Moving{near}, atBall, true}, {[]pose.Moving{near, mid, far}, atBall, true}, {[]pose.Moving{far, mid, near}, numbered(atBall, 2), true}, {[]pose.Moving{far, near, mid}, numbered(atBall, 1), true},
		{[]pose.Moving{beside, behind, near, near}, numbered(atBall, 2), true}, {[]pose.Moving{wall, near}, atBall, true}, {[]pose.Moving{near, wall}, atBall, true}, {[]pose.Moving{mid, wall, beside, near}, numbered(atBall, 1), true},
		{[]pose.Moving{near, beside, behind}, atBall, true}, {[]pose.Moving{far, beside}, hit(12*one, ones(0, 0, 8), ones(0, 0, -1)), true},
	}
	for i, x := range rows {
		if got, ok := r.Scan(x.l, 0, most); got != x.want || ok != x.ok {
			t.Errorf("row %d: %v, %v, not %v, %v", i, got, ok, x.want, x.ok)
		}
	}
	all := []pose.Moving{far, mid, near}
	ends := []struct {
		near, far api.Fix
		want      ray.Hit
		ok        bool
	}{
		{3 * one, most, numbered(hit(5*one, ones(0, 0, 1), ones(0, 0, -1)), 1), true}, {5 * one, most, numbered(hit(7*one, ones(0, 0, 3), ones(0, 0, -1)), 1), true},
		{7 * one, most, hit(12*one, ones(0, 0, 8), ones(0, 0, -1)), true}, {14 * one, most, ray.Hit{}, false}, {0, 3*one - 1, ray.Hit{}, false}, {0, 3 * one, numbered(atBall, 2), true}, {3 * one, 2 * one, ray.Hit{}, false},
	}
	for i, x := range ends {
		if got, ok := r.Scan(all, x.near, x.far); got != x.want || ok != x.ok {
			t.Errorf("behind %d, up to %d (%d): %v, %v, not %v, %v", x.near, x.far, i, got, ok, x.want, x.ok)
		}
	}
}

// P12.2: of all hits that Test tells, by sorting.
func TestScanOfSome(t *testing.T) {
	d := draw(21)
	met := 0
	for range 1200 {
		r, l := d.ray(), d.shapes(1+d.below(20))
		var hits []ray.Hit
		for i, m := range l {
			if h, ok := r.Test(m, ray.Near, most); ok {
				h.Shape = i
				hits = append(hits, h)
			}
		}
		got, ok := r.Scan(l, ray.Near, most)
		if ok != (len(hits) > 0) || !ok && got != (ray.Hit{}) {
			t.Fatalf("%v of %v: %v, %v", r, l, got, ok)
		}
		if !ok {
			continue
		}
		met++
		slices.SortFunc(hits, func(a, b ray.Hit) int {
			if a.T != b.T {
				return int(a.T - b.T)
			}
			return a.Shape - b.Shape
		})
		if got != hits[0] {
			t.Fatalf("%v of %v: %v, not %v", r, l, got, hits[0])
		}
	}
	if met < 100 {
		t.Errorf("only %d rays met something", met)
	}
}

// R3: what is handed in stays, the room behind its end too.
func TestScanLeavesItsList(t *testing.T) {
	d := draw(2)
	l := d.shapes(12)
	kept := slices.Clone(l)
	for range 50 {
		d.ray().Scan(l[:7], 0, most)
	}
	if !slices.Equal(l, kept) {
		t.Error("the list was changed")
	}
}

// R1: any numbers at all.
func TestWildOnesEnd(t *testing.T) {
	wild := []api.Fix{math.MinInt64, math.MinInt64 + 1, -most - 1, -most, -1, 0, 1, most, most + 1, math.MaxInt64 - 1, math.MaxInt64}
	d := draw(8)
	any := func() api.Fix { return wild[d.below(len(wild))] }
	point := func() api.Vec { return v(any(), any(), any()) }
	placed := func() pose.Placed {
		return pose.Placed{Kind: d.below(4) - 1, P: [3]api.Vec{point(), point(), point()}, Radius: any()}
	}
	for range 5000 {
		r := ray.Ray{From: point(), Dir: point(), Part: any()}
		l := []pose.Moving{{A: placed(), B: placed()}, {A: placed(), B: placed()}}
		near, far := any(), any()
		h, ok := r.Scan(l, near, far)
		if !ok && h != (ray.Hit{}) || ok && (h.T <= near || h.T > far) {
			t.Fatalf("%v of %v, behind %d, up to %d: %v, %v", r, l, near, far, h, ok)
		}
		r.Span(near, far)
		ray.Mirrored(r.Dir, h.Normal)
	}
}
