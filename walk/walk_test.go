package walk_test

import (
	"math"
	"slices"
	"testing"

	"zoetrope/api"
	"zoetrope/box"
	"zoetrope/pose"
	"zoetrope/ray"
	"zoetrope/scene"
	"zoetrope/tree"
	"zoetrope/vec"
	"zoetrope/walk"
)

// The calls, with the signatures that the chapter tells.
var (
	_ func(l []pose.Moving) walk.World                                                  = walk.Make
	_ func(w walk.World, r ray.Ray, near, far api.Fix) (h ray.Hit, met bool, looks int) = walk.World.First
	_ func(w walk.World, r ray.Ray, near, far api.Fix) bool                             = walk.World.Any
	_ struct {
		tree.Tree
		Shapes []pose.Moving
	} = walk.World{}
)

const (
	one  = api.One
	most = api.Most
)

// v is a point of three numbers, in units.
func v(x, y, z api.Fix) api.Vec { return api.Vec{X: x, Y: y, Z: z} }

// ones is a point of three whole numbers.
func ones(x, y, z api.Fix) api.Vec { return v(x*one, y*one, z*one) }

// draw is a list of numbers without any order in them, the same ones in every run.
type draw uint64

// below is the next of them, from 0 on, below n.
func (d *draw) below(n int) int {
	*d = *d*6364136223846793005 + 1442695040888963407
	return int(uint64(*d) >> 32 % uint64(n))
}

// between is the next of them, from one end to the other.
func (d *draw) between(from, to api.Fix) api.Fix { return from + api.Fix(d.below(int(to-from+1))) }

// point is a point of the next of them.
func (d *draw) point(far api.Fix) api.Vec {
	return v(d.between(-far, far), d.between(-far, far), d.between(-far, far))
}

// about is a point not far from another one.
func (d *draw) about(a api.Vec, far api.Fix) api.Vec { return vec.Add(a, d.point(far)) }

// shape is a shape that moves a little, ball or face.
func (d *draw) shape(far, wide api.Fix) pose.Moving {
	p := pose.Placed{Kind: d.below(2), P: [3]api.Vec{d.point(far)}, Radius: d.between(0, wide)}
	p.P[1], p.P[2] = d.about(p.P[0], 2*wide), d.about(p.P[0], 2*wide)
	q := p
	for i := range q.P {
		q.P[i] = d.about(q.P[i], wide)
	}
	q.Radius = d.between(0, wide)
	return pose.Moving{A: p, B: q}
}

// shapes are some shapes that move.
func (d *draw) shapes(n int, far, wide api.Fix) []pose.Moving {
	var l []pose.Moving
	for range n {
		l = append(l, d.shape(far, wide))
	}
	return l
}

// ray is a ray towards one of some shapes, or somewhere else.
func (d *draw) ray(l []pose.Moving, far api.Fix) ray.Ray {
	r := ray.Ray{From: d.point(far), Dir: d.point(2 * one), Part: d.between(-9, one+9)}
	if len(l) > 0 && d.below(4) > 0 {
		to := l[d.below(len(l))].At(r.Part).P[0]
		r.Dir = vec.Scale(vec.Sub(to, r.From), d.between(1, one))
	}
	return r
}

// wild are shapes and a ray of any numbers at all.
func (d *draw) wild(n int) ([]pose.Moving, ray.Ray) {
	ends := []api.Fix{math.MinInt64, -most - 1, -most, 1 - most, -one, -1, 0, 1, one, 5 * one, most - 1, most, most + 1, math.MaxInt64}
	any := func() api.Fix { return ends[d.below(len(ends))] }
	point := func() api.Vec { return v(any(), any(), any()) }
	placed := func() pose.Placed {
		return pose.Placed{Kind: d.below(4) - 1, P: [3]api.Vec{point(), point(), point()}, Radius: any()}
	}
	var l []pose.Moving
	for range n {
		l = append(l, pose.Moving{A: placed(), B: placed()})
	}
	return l, ray.Ray{From: point(), Dir: point(), Part: any()}
}

// still is a shape that doesn't move.
func still(p pose.Placed) pose.Moving { return pose.Moving{A: p, B: p} }

// ball is a ball that doesn't move.
func ball(middle api.Vec, radius api.Fix) pose.Moving {
	return still(pose.Placed{Kind: scene.Ball, P: [3]api.Vec{middle}, Radius: radius})
}

// face is a face that doesn't move.
func face(p, q, r api.Vec) pose.Moving {
	return still(pose.Placed{Kind: scene.Face, P: [3]api.Vec{p, q, r}})
}

// asScan tells whether a world tells of a ray what Scan tells of its shapes, with no more looks than there are nodes; it answers whether something is met, and the looks.
func asScan(t *testing.T, w walk.World, l []pose.Moving, r ray.Ray, near, far api.Fix) (bool, int) {
	t.Helper()
	want, ok := r.Scan(l, near, far)
	got, met, looks := w.First(r, near, far)
	if got != want || met != ok || w.Any(r, near, far) != ok {
		t.Fatalf("%v of %v, from %d to %d: %v, %v, not %v, %v; any: %v", r, l, near, far, got, met, want, ok, w.Any(r, near, far))
	}
	if looks < 0 || looks > len(w.Nodes) {
		t.Fatalf("%d looks into %d nodes", looks, len(w.Nodes))
	}
	return met, looks
}

// between are places between which hits are looked for.
func between() [][2]api.Fix {
	return [][2]api.Fix{
		{ray.Near, most}, {0, most}, {-most, most}, {math.MinInt64, math.MaxInt64}, {one, 3 * one}, {0, one / 2}, {-3 * one, one}, {3 * one, one}, {0, 0}, {most, most}, {most, math.MaxInt64}, {math.MaxInt64, math.MinInt64},
	}
}

// P14.1
func TestMake(t *testing.T) {
	d := draw(5)
	for _, n := range []int{0, 1, 4, 5, 30, 127, 128} {
		l := d.shapes(n, 5*one, one)
		w := walk.Make(l)
		var pairs []box.Pair
		for _, m := range l {
			pairs = append(pairs, box.Moving(m))
		}
		want := tree.Make(pairs)
		if !slices.Equal(w.Nodes, want.Nodes) || !slices.Equal(w.Order, want.Order) || !slices.Equal(w.Shapes, l) || w.Deep() != want.Deep() {
			t.Errorf("of %d: %v", n, w)
		}
	}
}

// P14.1
func TestNoShapes(t *testing.T) {
	d := draw(1)
	for _, w := range []walk.World{walk.Make(nil), walk.Make([]pose.Moving{}), {}} {
		for range 20 {
			h, met, looks := w.First(d.ray(nil, 5*one), 0, most)
			if h != (ray.Hit{}) || met || looks != 0 || w.Any(d.ray(nil, 5*one), 0, most) {
				t.Errorf("%v, %v, %d looks", h, met, looks)
			}
		}
	}
}

// P14.1: of more shapes than there may be nothing is met.
func TestTooManyShapes(t *testing.T) {
	r := ray.Ray{From: ones(0, 0, -4), Dir: ones(0, 0, 1)}
	b := ball(ones(0, 0, 0), one)
	if h, met, _ := walk.Make(slices.Repeat([]pose.Moving{b}, 128)).First(r, 0, most); !met || h.Shape != 0 || h.T != 3*one {
		t.Errorf("of 128: %v, %v", h, met)
	}
	for _, n := range []int{129, 500} {
		w := walk.Make(slices.Repeat([]pose.Moving{b}, n))
		h, met, looks := w.First(r, 0, most)
		if h != (ray.Hit{}) || met || looks != 0 || w.Any(r, 0, most) {
			t.Errorf("of %d: %v, %v, %d looks", n, h, met, looks)
		}
	}
}

// P14.1: worlds whose first hit is seen at once, wherever it stands.
func TestFirstBySight(t *testing.T) {
	r := ray.Ray{From: ones(0, 0, -4), Dir: ones(0, 0, 1)}
	// Balls in a row, the one behind the other, each beside a wall that is met at the same place as it, or farther on.
	var l []pose.Moving
	for z := api.Fix(40); z >= 0; z -= 4 {
		l = append(l, ball(ones(0, 0, z), one), face(ones(-2, -2, z-1), ones(2, -2, z-1), ones(0, 2, z-1)), ball(ones(9, 0, z), one))
	}
	w := walk.Make(l)
	rows := []struct {
		near, far api.Fix
		t         api.Fix
		shape     int
		met       bool
	}{
		{0, most, 3 * one, 30, true}, {3*one - 1, 3 * one, 3 * one, 30, true}, {3 * one, most, 5 * one, 30, true}, {5 * one, most, 7 * one, 27, true}, {0, 3*one - 1, 0, 0, false},
		{7 * one, 9*one - 1, 0, 0, false}, {7 * one, 9 * one, 9 * one, 27, true}, {42 * one, most, 43 * one, 0, true}, {43 * one, most, 45 * one, 0, true}, {45 * one, most, 0, 0, false},
	}
	for _, x := range rows {
		h, met, _ := w.First(r, x.near, x.far)
		want := ray.Hit{}
		if x.met {
			want = ray.Hit{T: x.t, Shape: x.shape, Point: v(0, 0, x.t-4*one), Normal: h.Normal}
		}
		if h != want || met != x.met || w.Any(r, x.near, x.far) != x.met {
			t.Errorf("from %d to %d: %v, %v", x.near, x.far, h, met)
		}
	}
	back := ray.Ray{From: ones(0, 0, -4), Dir: ones(0, 0, -1)}
	if h, met, looks := w.First(back, 0, most); met || h != (ray.Hit{}) || looks > 1 || w.Any(back, 0, most) {
		t.Errorf("backwards: %v, %v, %d looks", h, met, looks)
	}
	if h, met, _ := w.First(back, -most, 0); !met || h.T != -45*one || h.Shape != 0 {
		t.Errorf("behind it: %v, %v", h, met)
	}
}

// P14.1: of those that are as far the one of the least number counts, in whichever leaf it is.
func TestAsFar(t *testing.T) {
	d := draw(40)
	r := ray.Ray{From: ones(0, 0, -9), Dir: ones(0, 0, 1)}
	later := 0
	for range 200 {
		// Walls in one plane that all are met, of whole numbers, so that nothing is rounded; so wide on either side that the tree parts them in any order.
		var l []pose.Moving
		for range 5 + d.below(60) {
			l = append(l, face(ones(-1-api.Fix(d.below(6)), -2, 0), ones(1+api.Fix(d.below(6)), -2, 0), ones(0, 4, 0)))
		}
		w := walk.Make(l)
		h, met, _ := w.First(r, 0, most)
		if !met || h.Shape != 0 || h.T != 9*one {
			t.Fatalf("of %v: %v, %v", l, h, met)
		}
		asScan(t, w, l, r, 0, most)
		if w.Order[0] != 0 {
			later++
		}
	}
	if later < 50 {
		t.Errorf("only %d times the first one doesn't come first", later)
	}
}

// P14.1: worlds of all sizes, of which some rays meet much, others little.
func TestAsScan(t *testing.T) {
	d := draw(17)
	met, missed, looks, nodes := 0, 0, 0, 0
	for range 250 {
		far := one << d.below(7)
		l := d.shapes(1+d.below(128), far, far>>d.below(6))
		w := walk.Make(l)
		for range 12 {
			r := d.ray(l, far)
			for i, ends := range between() {
				ok, n := asScan(t, w, l, r, ends[0], ends[1])
				if ok {
					met++
				} else {
					missed++
				}
				if i == 0 {
					looks, nodes = looks+n, nodes+len(w.Nodes)
				}
			}
		}
	}
	if met < 3000 || missed < 3000 {
		t.Errorf("met %d, missed %d", met, missed)
	}
	if looks*10 > nodes*9 {
		t.Errorf("%d looks into %d nodes", looks, nodes)
	}
}

// P14.1: numbers near the span's ends, where much is held, and beyond it; other kinds, too.
func TestAsScanOfWildOnes(t *testing.T) {
	d := draw(23)
	met := 0
	for range 1500 {
		l, r := d.wild(1 + d.below(40))
		w := walk.Make(l)
		for _, ends := range between() {
			if ok, _ := asScan(t, w, l, r, ends[0], ends[1]); ok {
				met++
			}
		}
	}
	for range 600 {
		far := one << d.below(15)
		l := d.shapes(1+d.below(40), far, one<<d.below(15))
		w := walk.Make(l)
		for range 4 {
			if ok, _ := asScan(t, w, l, d.ray(l, far), 0, most); ok {
				met++
			}
		}
	}
	if met < 1000 {
		t.Errorf("only %d met something", met)
	}
}

// P14.1: a shape is met where it is at the ray's part of the time.
func TestParts(t *testing.T) {
	var l []pose.Moving
	for i := range api.Fix(20) {
		a, b := ball(ones(10*i, 0, 0), one).A, ball(ones(10*i, 10, 0), one).A
		l = append(l, pose.Moving{A: a, B: b})
	}
	w := walk.Make(l)
	for i := range api.Fix(20) {
		for part := range api.Fix(11) {
			r := ray.Ray{From: ones(10*i, part, -4), Dir: ones(0, 0, 1), Part: part*one/10 + 1}
			h, met, _ := w.First(r, 0, most)
			if !met || h.Shape != int(i) || !w.Any(r, 0, most) {
				t.Errorf("ball %d at %d tenths: %v, %v", i, part, h, met)
			}
			r.Part = one - r.Part
			if h, met, _ := w.First(r, 0, most); met != (part == 5) || !met && h != (ray.Hit{}) {
				t.Errorf("ball %d, %d tenths back: %v, %v", i, part, h, met)
			}
		}
	}
}

// P14.2
func TestNoNodeMet(t *testing.T) {
	d := draw(31)
	apart := 0
	for range 2000 {
		far := one << d.below(7)
		l := d.shapes(1+d.below(60), far, far>>d.below(6))
		w := walk.Make(l)
		r := d.ray(nil, 8*far)
		for _, ends := range between() {
			span := r.Span(ends[0], ends[1])
			meets := slices.ContainsFunc(w.Nodes, func(n tree.Node) bool { return n.At(r.Part).Meets(span) })
			_, _, looks := w.First(r, ends[0], ends[1])
			if !meets && looks > 1 {
				t.Fatalf("%d looks, where no node is met", looks)
			}
			if !meets {
				apart++
			}
		}
	}
	if apart < 1000 {
		t.Errorf("only %d times no node was met", apart)
	}
}

// P14.1: behind a hit nothing is looked for, and where something is met there was a look.
func TestFewerLooks(t *testing.T) {
	var l []pose.Moving
	for i := range api.Fix(64) {
		l = append(l, ball(ones(0, 0, 4*i), one))
	}
	w := walk.Make(l)
	r := ray.Ray{From: ones(0, 0, -4), Dir: ones(0, 0, 1)}
	if _, met, looks := w.First(r, 0, most); !met || looks < w.Deep() || looks > 2*w.Deep() {
		t.Errorf("%v, %d looks into %d nodes, %d deep", met, looks, len(w.Nodes), w.Deep())
	}
	if _, met, looks := w.First(r, 257*one, most); met || looks < 1 || looks > len(w.Nodes) {
		t.Errorf("behind them all: %v, %d looks", met, looks)
	}
}

// P14.1: what is asked leaves nothing behind.
func TestAskedAgain(t *testing.T) {
	d := draw(9)
	l := d.shapes(50, 6*one, one)
	w := walk.Make(l)
	kept := walk.World{Tree: tree.Tree{Nodes: slices.Clone(w.Nodes), Order: slices.Clone(w.Order)}, Shapes: slices.Clone(w.Shapes)}
	for range 300 {
		r := d.ray(l, 6*one)
		h, met, looks := w.First(r, 0, most)
		w.Any(r, 0, most)
		if again, met2, looks2 := w.First(r, 0, most); again != h || met2 != met || looks2 != looks {
			t.Fatalf("%v, %v, %d looks; then %v, %v, %d", h, met, looks, again, met2, looks2)
		}
	}
	if !slices.Equal(w.Nodes, kept.Nodes) || !slices.Equal(w.Order, kept.Order) || !slices.Equal(w.Shapes, kept.Shapes) {
		t.Error("the world was changed")
	}
}

// R3: what is handed in stays, the room behind its end too, and isn't kept.
func TestMakeLeavesItsList(t *testing.T) {
	d := draw(2)
	l := d.shapes(30, 5*one, one)
	kept := slices.Clone(l)
	w := walk.Make(l[:21])
	if !slices.Equal(l, kept) {
		t.Error("the list was changed")
	}
	clear(l)
	for range 100 {
		asScan(t, w, kept[:21], d.ray(kept, 5*one), 0, most)
	}
	clear(w.Shapes)
	if !slices.Equal(l, make([]pose.Moving, 30)) {
		t.Error("the world keeps the list")
	}
}

// R1: worlds that weren't made end, too, and so do those that were changed.
func TestAnyWorldEnds(t *testing.T) {
	d := draw(71)
	ends := []int{math.MinInt, -1, 0, 1, 2, 3, 4, 9, math.MaxInt - 1, math.MaxInt}
	number := func() int { return ends[d.below(len(ends))] }
	all := box.Pair{Box: box.All(), To: box.All()}
	for range 3000 {
		w := walk.World{Shapes: d.shapes(d.below(6), one, one)}
		for range d.below(6) {
			w.Nodes = append(w.Nodes, tree.Node{Pair: all, Left: number(), Right: number(), First: number(), Count: number()})
		}
		for range d.below(6) {
			w.Order = append(w.Order, number())
		}
		r := d.ray(w.Shapes, 2*one)
		if _, _, looks := w.First(r, 0, most); looks > len(w.Nodes) {
			t.Fatalf("%d looks into %d nodes", looks, len(w.Nodes))
		}
		w.Any(r, 0, most)
	}
}
