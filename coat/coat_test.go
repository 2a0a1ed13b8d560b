package coat_test

import (
	"math"
	"testing"

	"zoetrope/api"
	"zoetrope/coat"
	"zoetrope/dice"
	"zoetrope/fix"
	"zoetrope/hue"
	"zoetrope/pose"
	"zoetrope/ray"
	"zoetrope/scene"
	"zoetrope/vec"
)

// The calls, with the signatures that the chapter tells.
var (
	_ func(p scene.Paint, d, n api.Vec, u, v api.Fix) coat.Turn = coat.Bounce
	_ func(p pose.Placed, u, v api.Fix) api.Vec                 = coat.Sample
	_ func(at, n, lamp api.Vec) (api.Vec, api.Fix, api.Fix)     = coat.Reach
	_ func(weight hue.Hue, u api.Fix) (hue.Hue, bool)           = coat.Lives
	_ struct {
		Dir         api.Vec
		Let         hue.Hue
		Goes, Sharp bool
	} = coat.Turn{}
)

const (
	one  = api.One
	most = api.Most
)

// v is a point of three numbers, in units.
func v(x, y, z api.Fix) api.Vec { return api.Vec{X: x, Y: y, Z: z} }

// ones is a point of three whole numbers.
func ones(x, y, z api.Fix) api.Vec { return v(x*one, y*one, z*one) }

// h is a light of three kinds, in units.
func h(r, g, b api.Fix) hue.Hue { return hue.Hue{R: r, G: g, B: b} }

// draw is a list of numbers without any order in them, the same ones in every run.
type draw uint64

// below is the next of them, from 0 on, below n.
func (d *draw) below(n int) int {
	*d = *d*6364136223846793005 + 1442695040888963407
	return int(uint64(*d) >> 32 % uint64(n))
}

// between is the next of them, from one end to the other.
func (d *draw) between(from, to api.Fix) api.Fix { return from + api.Fix(d.below(int(to-from+1))) }

// point is a point of the next of them.
func (d *draw) point(far api.Fix) api.Vec {
	return v(d.between(-far, far), d.between(-far, far), d.between(-far, far))
}

// number is one of the places, or any of a length of its own.
func (d *draw) number() api.Fix {
	if n := places(); d.below(3) == 0 {
		return n[d.below(len(n))]
	}
	return d.between(-one<<d.below(15), one<<d.below(15))
}

// any is a point of such numbers, or a direction One long.
func (d *draw) any() api.Vec {
	switch d.below(5) {
	case 0:
		return v(d.number(), d.number(), d.number())
	case 1:
		return d.point(1 << d.below(31))
	}
	return vec.Unit(d.point(4 * one))
}

// places are numbers of all sizes, those beyond the span too.
func places() []api.Fix {
	return []api.Fix{math.MinInt64, -most - 1, -most, -7*one - 3, -one, -1, 0, 1, 255, 256, one / 4, one / 3, one / 2, one - 1, one, one + 1, 3*one + 7, 90 * one, most - 1, most, most + 1, math.MaxInt64}
}

// paint is a paint of some color.
func paint(kind int, rough api.Fix) scene.Paint {
	return scene.Paint{Kind: kind, Color: h(one, one/2, 16*one), Rough: rough}
}

// turned is a turn that goes, by a paint of that color.
func turned(dir api.Vec, sharp bool) coat.Turn {
	return coat.Turn{Dir: dir, Let: h(one, one/2, 16*one), Goes: true, Sharp: sharp}
}

// P16.1: the chapter's normal, by each kind of paint: only matte and gloss draw, only gloss is rough; the color is let through as it is.
func TestBounceBySight(t *testing.T) {
	up, slant := ones(0, 1, 0), v(39322, -52429, 0)
	back := v(39322, 52429, 0)
	rows := []struct {
		p    scene.Paint
		d    api.Vec
		u, v api.Fix
		want coat.Turn
	}{
		{paint(scene.Matte, 0), slant, 0, 0, turned(v(0, 46341, 46341), false)}, {paint(scene.Matte, one), slant, one, 0, turned(v(0, 46341, -46342), false)},
		{paint(scene.Matte, 0), up, one / 2, one / 4, turned(up, false)}, {paint(scene.Matte, 0), up, one / 2, 3 * one / 4, turned(up, false)},
		{paint(scene.Mirror, 0), ones(0, -1, 0), 1, 2, turned(up, true)}, {paint(scene.Mirror, one), slant, 777, 888, turned(back, true)}, {paint(scene.Mirror, 0), slant, 0, 0, turned(back, true)},
		{paint(scene.Mirror, 0), ones(0, -9, 0), 0, 0, turned(up, true)},
		{paint(scene.Gloss, 0), slant, 777, 888, turned(back, true)}, {paint(scene.Gloss, 0), ones(0, -1, 0), 0, 0, turned(up, true)},
		{paint(scene.Gloss, one), ones(0, -1, 0), one / 2, one / 4, turned(up, true)}, {paint(scene.Gloss, one), ones(0, -1, 0), 0, 0, turned(v(0, 60547, 25079), true)},
	}
	for _, x := range rows {
		if got := coat.Bounce(x.p, x.d, up, x.u, x.v); got != x.want {
			t.Errorf("%v of %v by %d, %d: %v, not %v", x.p, x.d, x.u, x.v, got, x.want)
		}
	}
	wide := scene.Paint{Kind: scene.Mirror, Color: h(math.MinInt64, math.MaxInt64, -1)}
	if got := coat.Bounce(wide, ones(0, -1, 0), up, 0, 0); got != (coat.Turn{Dir: up, Let: wide.Color, Goes: true, Sharp: true}) {
		t.Errorf("a color beyond the span: %v", got)
	}
}

// P16.1: what isn't on the side of the normal doesn't go; nor does what comes from a lamp, or from no paint.
func TestBounceEnds(t *testing.T) {
	up := ones(0, 1, 0)
	rows := []struct {
		p    scene.Paint
		d, n api.Vec
	}{
		{paint(scene.Glow, 0), ones(0, -1, 0), up}, {paint(scene.Glow, one), up, up}, {paint(4, 0), ones(0, -1, 0), up}, {paint(-1, one), ones(0, -1, 0), up},
		{paint(math.MaxInt, 0), ones(0, -1, 0), up}, {paint(math.MinInt, 0), ones(0, -1, 0), up},
		// Along the surface, or from behind it.
		{paint(scene.Mirror, 0), ones(1, 0, 0), up}, {paint(scene.Gloss, 0), ones(1, 0, 0), up}, {paint(scene.Mirror, 0), ones(0, 1, 0), up}, {paint(scene.Gloss, 0), ones(0, 1, 0), up},
		{paint(scene.Mirror, 0), v(one, 1, 0), up}, {paint(scene.Gloss, one/2), ones(0, 1, 0), up},
		// Without a direction, or one that is rounded away.
		{paint(scene.Mirror, 0), ones(0, 0, 0), up}, {paint(scene.Gloss, 0), ones(0, 0, 0), up}, {paint(scene.Mirror, 0), v(0, -255, 0), up}, {paint(scene.Gloss, 0), v(0, -255, 0), up},
		// Behind zero there is no side; of what is short, the products are rounded down.
		{paint(scene.Matte, 0), ones(0, -1, 0), api.Vec{}}, {paint(scene.Mirror, 0), ones(0, -1, 0), api.Vec{}}, {paint(scene.Gloss, one), ones(0, -1, 0), api.Vec{}},
		{paint(scene.Matte, 0), ones(0, -1, 0), v(0, 1, 0)}, {paint(scene.Mirror, 0), ones(0, -1, 0), v(0, 1, 0)},
	}
	for _, x := range rows {
		if got := coat.Bounce(x.p, x.d, x.n, 0, 0); got != (coat.Turn{}) {
			t.Errorf("%v of %v by %v: %v", x.p, x.d, x.n, got)
		}
	}
	// The least ones that go.
	for p, dir := range map[scene.Paint]api.Vec{paint(scene.Mirror, 0): v(one, 1, 0), paint(scene.Gloss, 0): v(one, 1, 0)} {
		if got := coat.Bounce(p, v(one, -1, 0), up, 0, 0); got != turned(dir, true) {
			t.Errorf("%v just off the surface: %v", p, got)
		}
	}
	if got := coat.Bounce(paint(scene.Mirror, 0), v(0, -256, 0), up, 0, 0); got != turned(up, true) {
		t.Errorf("of a short direction: %v", got)
	}
}

// P16.1: turns reckoned by another program.
func TestBounce(t *testing.T) {
	rows := []struct {
		kind  int
		rough api.Fix
		d, n  api.Vec
		u, v  api.Fix
		want  api.Vec
	}{
		{scene.Matte, 2670, v(27743, 30986, 50647), v(-27319, 15197, -57600), 28881, 33227, v(-57283, 7624, -30914)},
		{scene.Matte, 55087, v(-39215, 37822, 36423), v(37956, -21075, 49094), 47419, 33847, v(-33913, -45349, 32995)},
		{scene.Matte, 810, v(20344, 50828, 36020), v(-22709, 12567, -60178), 37067, 10958, v(6423, 46148, -46089)},
		{scene.Matte, 34062, v(-38880, 6658, 52336), v(-33672, 45346, -33241), 61132, 60391, v(-3319, 20580, -62133)},
		{scene.Matte, 14901, v(-42323, -48703, -11484), v(52267, 1579, 39504), 13538, 28301, v(3249, 19000, 62638)},
		{scene.Matte, 27355, v(41930, 49898, -6857), v(-48882, 21966, -37722), 22825, 53479, v(-33752, -50092, -25435)},
		{scene.Matte, 7617, v(49115, -9031, 42439), v(-24093, 49710, -35262), 14067, 41060, v(-64418, 11860, 2233)},
		{scene.Mirror, 29154, v(44896, 47202, 7154), v(-42228, 5908, -49767), 33928, 31176, v(6098, 52632, -38573)},
		{scene.Mirror, 41861, v(-59240, -27646, -4625), v(34971, 26695, -48573), 5635, 52430, v(-17140, 4490, -63098)},
		{scene.Mirror, 14889, v(-60641, -7513, 23692), v(38823, 40848, 33456), 51683, 6107, v(-26859, 28030, 52802)},
		{scene.Mirror, 16499, v(-46909, 11172, -44382), v(45451, 40639, -24034), 52389, 31134, v(-33967, 22744, -51225)},
		{scene.Mirror, 37110, v(-30987, 45062, -36114), v(29337, -27159, -51931), 47757, 52742, v(-27468, 41805, -42345)},
		{scene.Mirror, 43667, v(-61835, -9025, -19750), v(42427, -8341, -49248), 27, 29051, v(-30704, -15145, -55884)},
		{scene.Mirror, 27112, v(-15207, -63437, 6289), v(-45470, 27279, -38515), 19307, 29173, v(-42338, -47160, -16692)},
		{scene.Gloss, 21529, v(29867, -3689, 58217), v(50225, -30965, -28526), 59453, 8615, v(48140, -5224, 44161)},
		{scene.Gloss, 10243, v(39544, -40342, 33223), v(-39003, 38113, -36346), 16113, 59541, v(-30191, 41289, -40974)},
		{scene.Gloss, 15216, v(-49823, 35230, -23907), v(-4928, 9322, 64684), 31315, 32039, v(-53497, 35382, 13463)},
		{scene.Gloss, 65402, v(30937, -39952, 41734), v(24750, 20357, -57167), 9988, 39972, v(15271, -39602, -49936)},
		{scene.Gloss, 22644, v(5171, -64690, -9142), v(43307, 45192, 19418), 17919, 60388, v(62287, -358, 20377)},
		{scene.Gloss, 5578, v(-34393, 55583, -4754), v(24872, -28713, 53403), 7387, 49300, v(-1853, 15525, 63644)},
		{scene.Gloss, 9775, v(-38498, -23348, -47622), v(43142, 11360, 48007), 58225, 41402, v(49082, -8110, 42665)},
	}
	for _, x := range rows {
		if got := coat.Bounce(paint(x.kind, x.rough), x.d, x.n, x.u, x.v); got != turned(x.want, x.kind != scene.Matte) {
			t.Errorf("%v: %v, not %v", x, got, x.want)
		}
	}
}

// bounceOf is the chapter's Bounce, word by word.
func bounceOf(p scene.Paint, d, n api.Vec, u, v api.Fix) coat.Turn {
	back, dome := ray.Mirrored(d, n), dice.Dome(n, u, v)
	blur := api.Vec{X: fix.Mul(dome.X, p.Rough), Y: fix.Mul(dome.Y, p.Rough), Z: fix.Mul(dome.Z, p.Rough)}
	dirs := map[int]api.Vec{scene.Matte: dome, scene.Mirror: vec.Unit(back), scene.Gloss: vec.Unit(vec.Add(back, blur))}
	dir, ok := dirs[p.Kind]
	if !ok || vec.Dot(dir, n) <= 0 {
		return coat.Turn{}
	}
	return coat.Turn{Dir: dir, Let: p.Color, Goes: true, Sharp: p.Kind == scene.Mirror || p.Kind == scene.Gloss}
}

// P16.1, P16.4: word by word, for any paints, directions and numbers; what goes leaves on the side of the normal.
func TestBounceWordByWord(t *testing.T) {
	d := draw(16)
	var goes, ends [6]int
	for range 60000 {
		kind := d.below(6) - 1
		p := scene.Paint{Kind: kind, Color: h(d.number(), d.number(), d.number()), Rough: d.number()}
		if d.below(2) == 0 {
			p.Rough = d.between(0, one)
		}
		along, n, u, around := d.any(), d.any(), d.number(), d.number()
		if d.below(2) == 0 {
			u, around = d.between(0, one-1), d.between(0, one-1)
		}
		got := coat.Bounce(p, along, n, u, around)
		if want := bounceOf(p, along, n, u, around); got != want {
			t.Fatalf("%v of %v by %v, %d, %d: %v, not %v", p, along, n, u, around, got, want)
		}
		if got.Goes && vec.Dot(got.Dir, n) <= 0 {
			t.Fatalf("%v of %v by %v, %d, %d: %v leaves on the other side", p, along, n, u, around, got)
		}
		if got.Goes {
			goes[kind+1]++
		} else {
			ends[kind+1]++
		}
	}
	for _, kind := range []int{scene.Matte, scene.Mirror, scene.Gloss} {
		if goes[kind+1] < 1000 || ends[kind+1] < 100 {
			t.Errorf("of the kind %d only %d went, %d ended", kind, goes[kind+1], ends[kind+1])
		}
	}
}

// P16.3: a way lives, if what is drawn is below the greatest kind, or a quarter, if that is less; by that it counts more then.
func TestLives(t *testing.T) {
	const quarter = one / 4
	rows := []struct {
		weight hue.Hue
		u      api.Fix
		want   hue.Hue
		lives  bool
	}{
		{h(one, one, one), 0, h(one, one, one), true}, {h(one, one, one), one - 1, h(one, one, one), true}, {h(one, one, one), one, hue.Hue{}, false},
		{h(one/2, quarter, 0), 0, h(one, one/2, 0), true}, {h(one/2, quarter, 0), one/2 - 1, h(one, one/2, 0), true}, {h(one/2, quarter, 0), one / 2, hue.Hue{}, false},
		{h(quarter, one/2, 0), one/2 - 1, h(one/2, one, 0), true}, {h(quarter, one/2, 0), one / 2, hue.Hue{}, false}, {h(0, quarter, one/2), one/2 - 1, h(0, one/2, one), true}, {h(0, quarter, one/2), one / 2, hue.Hue{}, false},
		{h(quarter, quarter, quarter), quarter - 1, h(one, one, one), true}, {h(quarter, quarter, quarter), quarter, hue.Hue{}, false}, {h(quarter+1, 0, 0), quarter, h(one, 0, 0), true},
		{h(one/8, 1, 0), quarter - 1, h(one/2, 4, 0), true}, {h(one/8, 1, 0), quarter, hue.Hue{}, false}, {h(0, 0, 0), quarter - 1, hue.Hue{}, true}, {h(0, 0, 0), quarter, hue.Hue{}, false},
		{h(3*one, one, 5), one - 1, h(3*one, one, 5), true}, {h(3*one, one, 5), one, hue.Hue{}, false}, {h(3*one, one, 5), 2 * one, hue.Hue{}, false},
		{h(-one, -2*one, -1), quarter - 1, h(-4*one, -8*one, -4), true}, {h(-one, -2*one, -1), quarter, hue.Hue{}, false}, {h(-one, one/2, 0), one/2 - 1, h(-2*one, one, 0), true},
		{h(one, one, one), -1, h(one, one, one), true}, {h(0, 1, 2), math.MinInt64, h(0, 4, 8), true}, {h(one, one, one), math.MaxInt64, hue.Hue{}, false}, {h(one, one, one), one + 1, hue.Hue{}, false},
		{h(math.MaxInt64, 0, math.MinInt64), one - 1, h(most, 0, -most), true}, {h(math.MinInt64, 0, most+1), 0, h(-most, 0, most), true}, {h(math.MinInt64, math.MinInt64, -most), 0, h(-most, -most, -most), true},
		// Reckoned by another program.
		{h(26759, 18564, 55606), 37819, h(31537, 21879, 65536), true}, {h(32259, 79005, 14736), 25082, h(32259, 79005, 14736), true}, {h(26759, 18564, 55606), 55605, h(31537, 21879, 65536), true}, {h(26759, 18564, 55606), 55606, hue.Hue{}, false},
	}
	for _, x := range rows {
		if got, lives := coat.Lives(x.weight, x.u); got != x.want || lives != x.lives {
			t.Errorf("%v by %d: %v, %v, not %v, %v", x.weight, x.u, got, lives, x.want, x.lives)
		}
	}
}

// P16.3: word by word, for any weights and numbers.
func TestLivesWordByWord(t *testing.T) {
	d := draw(3)
	for range 30000 {
		w, u := h(d.number(), d.number(), d.number()), d.number()
		if d.below(2) == 0 {
			w, u = h(d.between(0, one), d.between(0, one), d.between(0, one)), d.between(0, one)
		}
		greatest := w.R
		for _, k := range []api.Fix{w.G, w.B} {
			if k > greatest {
				greatest = k
			}
		}
		c := fix.Unit(greatest)
		if c < one/4 {
			c = one / 4
		}
		want, lives := hue.Hue{}, fix.Unit(u) < c
		if lives {
			want = h(fix.Div(w.R, c), fix.Div(w.G, c), fix.Div(w.B, c))
		}
		if got, ok := coat.Lives(w, u); got != want || ok != lives {
			t.Fatalf("%v by %d: %v, %v, not %v, %v", w, u, got, ok, want, lives)
		}
	}
}
