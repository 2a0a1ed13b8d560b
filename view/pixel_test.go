package view_test

import (
	"math"
	"testing"

	"zoetrope/api"
	"zoetrope/fix"
	"zoetrope/ray"
	"zoetrope/vec"
	"zoetrope/view"
)

// usual is the chapter's view, of a picture of two pixels by two.
func usual() view.View { return seen(ones(0, 0, -4), ones(0, 0, 0), one, 2, 2) }

// P15.2: through the usual view's corners, edges and middle: each side of the picture is as far from its middle as it lies ahead.
func TestRayBySight(t *testing.T) {
	middle := ones(0, 0, 1)
	lowLeft, highLeft, lowRight := v(-37838, -37838, 37837), v(-37838, 37837, 37837), v(37837, -37838, 37837)
	rows := []struct {
		x, y       int
		over, down api.Fix
		want       api.Vec
	}{
		{1, 1, 0, 0, middle}, {0, 0, one, one, middle}, {1, 0, 0, one, middle}, {0, 1, one, 0, middle},
		{0, 0, 0, 0, highLeft}, {1, 1, one, one, lowRight}, {0, 1, 0, one, lowLeft}, {0, 2, 0, 0, lowLeft},
		{0, 1, one / 2, one / 2, v(-26756, -26756, 53510)},
		// Beyond a pixel's ends a share is its end.
		{0, 0, -5, -1, highLeft}, {0, 0, math.MinInt64, math.MinInt64, highLeft}, {0, 0, one + 9, one + 1, middle}, {0, 0, math.MaxInt64, math.MaxInt64, middle},
		// Beyond the picture there are rays, too; and beyond the span's end they are those at its end.
		{-1, 5, 0, 0, v(-28603, -57205, 14301)}, {32767, 0, 0, 0, v(5931279, 362, 362)}, {32768, 0, 0, 0, v(5931279, 362, 362)},
		{math.MaxInt, math.MinInt, 0, 0, v(5931279, 5931641, 362)}, {0, math.MaxInt, 0, 0, v(-363, -5931280, 362)},
	}
	for _, x := range rows {
		want := ray.Ray{From: ones(0, 0, -4), Dir: x.want, Part: 77}
		if got := usual().Ray(x.x, x.y, x.over, x.down, 77); got != want {
			t.Errorf("%v: %v, not %v", x, got, want)
		}
	}
}

// P15.2: a picture is as high as it is wide ahead, whatever its width; how wide the view is stretches both ways.
func TestRayOfAPicture(t *testing.T) {
	rows := []struct {
		wide          api.Fix
		width, height int
		x, y          int
		right, up     api.Fix
	}{
		{one, 4, 2, 0, 0, -2 * one, one}, {one, 4, 2, 4, 2, 2 * one, -one}, {one, 2, 4, 0, 0, -one / 2, one}, {one, 1, 1, 1, 0, one, one}, {one, 64, 16, 0, 8, -4 * one, 0},
		{2 * one, 4, 2, 0, 0, -4 * one, 2 * one}, {one / 2, 2, 4, 2, 4, one / 4, -one / 2}, {8 * one, 2, 2, 0, 1, -8 * one, 0}, {1, 2, 2, 0, 0, -1, 1},
	}
	for _, x := range rows {
		want := vec.Unit(v(x.right, x.up, one))
		if got := seen(ones(0, 0, -4), ones(0, 0, 0), x.wide, x.width, x.height).Ray(x.x, x.y, 0, 0, 0); got != (ray.Ray{From: ones(0, 0, -4), Dir: want}) {
			t.Errorf("%v: %v, not along %v", x, got, want)
		}
	}
}

// P15.2: rays reckoned by another program.
func TestRay(t *testing.T) {
	rows := []struct {
		eye, look     api.Vec
		wide          api.Fix
		width, height int
		x, y          int
		over, down    api.Fix
		want          api.Vec
	}{
		{v(-324179, 120855, -373556), v(-187999, -246082, 166658), 53951, 23, 3, 16, 1, 19882, 13090, v(64566, -9571, 5876)},
		{v(-271349, 21363, -343497), v(-316054, 98211, 367583), 82189, 38, 52, 14, 11, 46373, 10264, v(-13887, 43039, 47432)},
		{v(-146529, -68036, -66865), v(-220678, 263355, -59489), 60447, 50, 61, 28, 50, 9725, 35710, v(-44548, 47064, 9773)},
		{v(104277, -244162, -272210), v(316031, 123189, 15505), 126484, 49, 2, 16, 0, 37645, 8416, v(-53637, 8030, 36791)},
		{v(-349828, 79351, -330920), v(-125771, -227148, 130994), 22026, 62, 64, 32, 7, 62188, 10711, v(28625, -18303, 56042)},
		{v(204032, 91529, -150182), v(228946, 77719, 332846), 96443, 33, 11, 0, 0, 43660, 49779, v(-60385, 17912, 18106)},
		{v(61471, -29017, -334534), v(255385, 346240, -76199), 88272, 58, 40, 52, 1, 56492, 50477, v(32484, 45282, -34487)},
		{v(-377448, 308453, -28222), v(253183, 14098, 150039), 49283, 1, 19, 0, 15, 43385, 42582, v(40616, -50310, 10695)},
	}
	for i, x := range rows {
		want := ray.Ray{From: x.eye, Dir: x.want, Part: api.Fix(i)}
		if got := seen(x.eye, x.look, x.wide, x.width, x.height).Ray(x.x, x.y, x.over, x.down, api.Fix(i)); got != want {
			t.Errorf("%v: %v, not %v", x, got, want)
		}
	}
}

// P15.2: where the Unit is zero, the direction is Ahead: of a short one, as it is; of one that the others take away.
func TestRayAhead(t *testing.T) {
	there, back := seen(ones(0, 0, 0), ones(0, 0, 5), one, 2, 2), seen(ones(0, 0, 0), ones(0, 0, -5), one, 2, 2)
	rows := []struct {
		v    view.View
		x, y int
		want api.Vec
	}{
		{view.Mix(there, back, one/2-1), 1, 1, v(0, 0, 2)}, {view.Mix(there, back, one/2-127), 1, 1, v(0, 0, 254)}, {view.Mix(there, back, one/2-128), 1, 1, v(0, 0, one)},
		{view.Mix(there, back, one/2), 1, 1, v(0, 0, 0)}, {view.Mix(there, back, one/2), 0, 0, v(0, one, 0)}, {view.Mix(there, back, one/2+1), 1, 1, v(0, 0, -2)},
		{view.View{Ahead: ones(0, 0, 1), Right: ones(0, 0, 1), Wide: one, Width: 2, Height: 2}, 0, 1, ones(0, 0, 1)},
		{view.View{Ahead: ones(3, 0, 1), Up: ones(-3, 0, -1), Wide: one, Width: 2, Height: 2}, 0, 0, ones(3, 0, 1)},
		{view.View{Ahead: v(0, -7, 200), Wide: one, Width: 2, Height: 2}, 0, 0, v(0, -7, 200)},
	}
	for _, x := range rows {
		if got := x.v.Ray(x.x, x.y, 0, 0, one); got != (ray.Ray{From: x.v.Eye, Dir: x.want, Part: one}) {
			t.Errorf("%v of %d, %d: %v, not along %v", x.v, x.x, x.y, got, x.want)
		}
	}
}

// rayOf is the chapter's Ray, word by word.
func rayOf(v view.View, x, y int, over, down, part api.Fix) ray.Ray {
	h, two := fix.Of(v.Height), fix.Of(2)
	u := fix.Div(fix.Sub(fix.Mul(two, fix.Add(fix.Of(x), fix.Unit(over))), fix.Of(v.Width)), h)
	w := fix.Div(fix.Sub(h, fix.Mul(two, fix.Add(fix.Of(y), fix.Unit(down)))), h)
	aside, above := fix.Mul(u, v.Wide), fix.Mul(w, v.Wide)
	a, r, p := v.Ahead, v.Right, v.Up
	sum := api.Vec{
		X: fix.Sum(a.X, fix.Mul(r.X, aside), fix.Mul(p.X, above)),
		Y: fix.Sum(a.Y, fix.Mul(r.Y, aside), fix.Mul(p.Y, above)),
		Z: fix.Sum(a.Z, fix.Mul(r.Z, aside), fix.Mul(p.Z, above)),
	}
	return ray.Ray{From: v.Eye, Dir: orElse(vec.Unit(sum), v.Ahead), Part: part}
}

// P15.2, P15.4: word by word, for any views, pixels and shares; no direction is zero, but where Ahead is.
func TestRayWordByWord(t *testing.T) {
	d := draw(4)
	n, m := places(), sides()
	for _, x := range views() {
		for range 40 {
			i, j, over, down, part := m[d.below(len(m))], m[d.below(len(m))], n[d.below(len(n))], n[d.below(len(n))], n[d.below(len(n))]
			if d.below(2) == 0 && x.Width > 0 && x.Height > 0 {
				i, j, over, down = d.below(x.Width), d.below(x.Height), d.between(0, one), d.between(0, one)
			}
			got, want := x.Ray(i, j, over, down, part), rayOf(x, i, j, over, down, part)
			if got != want {
				t.Fatalf("%v of %d, %d, %d, %d, %d: %v, not %v", x, i, j, over, down, part, got, want)
			}
			if got.Dir == (api.Vec{}) && x.Ahead != (api.Vec{}) {
				t.Fatalf("%v of %d, %d, %d, %d: no direction", x, i, j, over, down)
			}
		}
	}
}

// place is where a point is seen, or not.
type place struct {
	x, y int
	ok   bool
}

// isSeen tells whether a view's point is seen where it must be; what isn't seen is told by zeros.
func isSeen(t *testing.T, v view.View, p api.Vec, want place) {
	t.Helper()
	x, y, ok := v.Pixel(p)
	if got := (place{x, y, ok}); got != want {
		t.Errorf("%v of %v: %v, not %v", v, p, got, want)
	}
}

// P15.3: points 4 ones ahead of the usual view: a pixel has its left and its upper edge, and the picture's sides are rounded as the quotients are.
func TestPixelBySight(t *testing.T) {
	far := 4 * one
	for _, x := range []struct {
		right, up api.Fix
		want      place
	}{
		{0, 0, place{1, 1, true}}, {-1, 0, place{0, 1, true}}, {-1, 4, place{0, 0, true}}, {0, 4, place{1, 0, true}}, {0, 3, place{1, 1, true}}, {0, -1, place{1, 1, true}},
		{-far, far, place{0, 0, true}}, {-far - 1, far, place{}}, {-far, far + 3, place{0, 0, true}}, {-far, far + 4, place{}}, {-far - 4, 0, place{}},
		{far - 1, 0, place{1, 1, true}}, {far, 0, place{}}, {far - 1, -far + 4, place{1, 1, true}}, {0, -far + 3, place{}}, {0, -far, place{}},
		{-3 * one, 3 * one, place{0, 0, true}}, {3 * one, -3 * one, place{1, 1, true}}, {-2 * one, -one, place{0, 1, true}}, {2 * one, one, place{1, 0, true}},
		{9 * one, 0, place{}}, {0, 9 * one, place{}}, {-9 * one, 0, place{}}, {0, -9 * one, place{}}, {most, 0, place{}}, {0, math.MaxInt64, place{}}, {math.MinInt64, 0, place{}},
	} {
		isSeen(t, usual(), v(x.right, x.up, 0), x.want)
	}
}

// P15.3: what doesn't lie ahead isn't seen; nor what is so near, or is looked at through so narrow a view, that f is rounded away.
func TestPixelBehind(t *testing.T) {
	x := usual()
	for z, want := range map[api.Fix]place{
		-4*one + 1: {1, 1, true}, -4 * one: {}, -4*one - 1: {}, -9 * one: {}, 9 * one: {1, 1, true}, -most: {}, math.MinInt64: {}, most: {1, 1, true}, math.MaxInt64: {1, 1, true},
	} {
		isSeen(t, x, v(0, 0, z), want)
	}
	x.Wide = one / 4
	isSeen(t, x, v(0, 0, -4*one+3), place{})
	isSeen(t, x, v(0, 0, -4*one+4), place{1, 1, true})
	x.Wide = 1
	isSeen(t, x, v(0, 0, -3*one-1), place{})
	isSeen(t, x, v(0, 0, -3*one), place{1, 1, true})
	x.Wide = 0
	isSeen(t, x, v(0, 0, most), place{})
	x.Wide = -one
	isSeen(t, x, v(0, 0, 0), place{})
	isSeen(t, x, v(0, 0, -5*one), place{1, 1, true})
}

// P15.3: the middle is seen in the middle, and the height alone tells how far apart pixels are.
func TestPixelOfAPicture(t *testing.T) {
	rows := []struct {
		wide          api.Fix
		width, height int
		p             api.Vec
		want          place
	}{
		{one, 5, 3, ones(0, 0, 0), place{2, 1, true}}, {one, 64, 1, ones(0, 0, 0), place{32, 0, true}}, {one, 1, 64, ones(0, 0, 0), place{0, 32, true}},
		{one, 4, 2, ones(-8, 0, 0), place{0, 1, true}}, {one, 4, 2, ones(-5, 0, 0), place{0, 1, true}}, {one, 4, 2, ones(-4, 0, 0), place{1, 1, true}}, {one, 4, 2, ones(7, 4, 0), place{3, 0, true}},
		{one, 2, 4, ones(-2, 0, 0), place{0, 2, true}}, {one, 2, 4, ones(-3, 0, 0), place{}}, {one, 2, 4, ones(1, -3, 0), place{1, 3, true}},
		{2 * one, 2, 2, ones(-8, 0, 0), place{0, 1, true}}, {2 * one, 2, 2, ones(-9, 0, 0), place{}}, {one / 2, 2, 2, ones(1, 1, 0), place{1, 0, true}}, {one / 2, 2, 2, ones(3, 0, 0), place{}},
		{one, 0, 2, ones(0, 0, 0), place{}}, {one, 2, 0, ones(0, 0, 0), place{}}, {one, -2, -2, ones(0, 0, 0), place{}}, {one, 0, 0, ones(0, 0, 0), place{}},
	}
	for _, x := range rows {
		isSeen(t, seen(ones(0, 0, -4), ones(0, 0, 0), x.wide, x.width, x.height), x.p, x.want)
	}
}

// P15.3: pixels reckoned by another program.
func TestPixel(t *testing.T) {
	rows := []struct {
		eye, look     api.Vec
		wide          api.Fix
		width, height int
		p             api.Vec
		x, y          int
		ok            bool
	}{
		{v(232367, -118608, 16101), v(83277, 70298, 31676), 104060, 16, 22, v(132230, 419674, 481339), 14, 8, true},
		{v(-221751, 209866, -120494), v(-88705, -233977, 77808), 79502, 31, 20, v(-271763, -16325, -69988), 12, 13, true},
		{v(20993, 55990, -161659), v(251680, -92530, 34117), 113736, 61, 52, v(462105, -50777, 150106), 31, 22, true},
		{v(-119105, -330149, -160091), v(-352356, -22591, 19594), 93726, 43, 38, v(139694, 151734, 232861), 38, 7, true},
		{v(294647, 126385, -343103), v(-266661, 179547, -200829), 57774, 51, 37, v(-296787, 45638, -199092), 25, 23, true},
		{v(149501, -380648, -137459), v(-124493, 72297, -243350), 99207, 51, 37, v(-372187, 271665, -59005), 29, 18, true},
		{v(-250710, 148038, 284183), v(297930, -353324, -1110), 79461, 55, 11, v(175000, -169580, 243359), 26, 5, true},
		{v(194601, -335562, 368479), v(280576, 89764, -334642), 94567, 63, 43, v(-176111, -20398, 327103), 0, 0, false},
		{v(328748, -9516, 67693), v(214556, 23547, 316649), 25267, 47, 49, v(-221941, 56973, -20828), 0, 0, false},
		{v(252108, -264546, -293341), v(-321179, -165264, 30944), 26398, 27, 41, v(383082, 227606, -66347), 0, 0, false},
	}
	for _, x := range rows {
		isSeen(t, seen(x.eye, x.look, x.wide, x.width, x.height), x.p, place{x.x, x.y, x.ok})
	}
}

// pixelOf is the chapter's Pixel, word by word.
func pixelOf(v view.View, p api.Vec) place {
	d := vec.Sub(p, v.Eye)
	f := fix.Mul(vec.Dot(d, v.Ahead), v.Wide)
	h, two := fix.Of(v.Height), fix.Of(2)
	u, w := fix.Mul(fix.Div(vec.Dot(d, v.Right), f), h), fix.Mul(fix.Div(vec.Dot(d, v.Up), f), h)
	x, y := fix.Whole(fix.Div(fix.Add(u, fix.Of(v.Width)), two)), fix.Whole(fix.Div(fix.Sub(h, w), two))
	if f > 0 && x >= 0 && x < v.Width && y >= 0 && y < v.Height {
		return place{x, y, true}
	}
	return place{}
}

// P15.3, P15.4: word by word, for any views and points; what is told lies in the picture, and is zero, if nothing is.
func TestPixelWordByWord(t *testing.T) {
	d := draw(9)
	n := places()
	told := 0
	for _, x := range views() {
		for i := range 60 {
			p := v(n[d.below(len(n))], n[d.below(len(n))], n[d.below(len(n))])
			if i > 9 {
				p = vec.Sum(x.Eye, vec.Scale(x.Ahead, one<<d.below(8)), d.point(64<<d.below(20)))
			}
			i, j, ok := x.Pixel(p)
			if got, want := (place{i, j, ok}), pixelOf(x, p); got != want {
				t.Fatalf("%v of %v: %v, not %v", x, p, got, want)
			}
			if ok && (i < 0 || i >= x.Width || j < 0 || j >= x.Height) || !ok && (i != 0 || j != 0) {
				t.Fatalf("%v of %v: %d, %d, %v", x, p, i, j, ok)
			}
			if ok {
				told++
			}
		}
	}
	if told < 1000 {
		t.Errorf("only %d points were seen", told)
	}
}

// P15.2, P15.3: what a ray through a pixel's middle comes by is seen in that pixel.
func TestThereAndBack(t *testing.T) {
	d := draw(33)
	for range 300 {
		x := seen(d.point(9*one), d.point(9*one), d.between(one/2, 2*one), 1+d.below(api.MaxSide), 1+d.below(api.MaxSide))
		if vec.Len(v(x.Ahead.X, 0, x.Ahead.Z)) < one/8 {
			continue
		}
		for range 20 {
			i, j := d.below(x.Width), d.below(x.Height)
			isSeen(t, x, x.Ray(i, j, one/2, one/2, 0).At(d.between(4*one, 9*one)), place{i, j, true})
		}
	}
}
