package view_test

import (
	"math"
	"testing"

	"zoetrope/api"
	"zoetrope/fix"
	"zoetrope/pose"
	"zoetrope/ray"
	"zoetrope/scene"
	"zoetrope/track"
	"zoetrope/vec"
	"zoetrope/view"
)

// The calls, with the signatures that the chapter tells.
var (
	_ func(scene.Scene, api.Fix) view.View                          = view.At
	_ func(a, b view.View, t api.Fix) view.View                     = view.Mix
	_ func(v view.View, x, y int, over, down, part api.Fix) ray.Ray = view.View.Ray
	_ func(v view.View, p api.Vec) (x, y int, ok bool)              = view.View.Pixel
	_ struct {
		Eye, Ahead, Right, Up api.Vec
		Wide                  api.Fix
		Width, Height         int
	} = view.View{}
)

const (
	one  = api.One
	most = api.Most
)

// v is a point of three numbers, in units.
func v(x, y, z api.Fix) api.Vec { return api.Vec{X: x, Y: y, Z: z} }

// ones is a point of three whole numbers.
func ones(x, y, z api.Fix) api.Vec { return v(x*one, y*one, z*one) }

// looking is a scene whose lens stays where it is.
func looking(eye, look api.Vec, wide api.Fix, width, height int) scene.Scene {
	return scene.Scene{
		Header: scene.Header{Width: width, Height: height, Samples: 1, Depth: 1, Frames: 1},
		Lens:   scene.Lens{Eye: 0, Look: 1, Wide: wide},
		Tracks: []track.Track{track.Still(eye), track.Still(look)},
	}
}

// seen is the view from one point to another one.
func seen(eye, look api.Vec, wide api.Fix, width, height int) view.View {
	return view.At(looking(eye, look, wide, width, height), 0)
}

// draw is a list of numbers without any order in them, the same ones in every run.
type draw uint64

// below is the next of them, from 0 on, below n.
func (d *draw) below(n int) int {
	*d = *d*6364136223846793005 + 1442695040888963407
	return int(uint64(*d) >> 32 % uint64(n))
}

// between is the next of them, from one end to the other.
func (d *draw) between(from, to api.Fix) api.Fix { return from + api.Fix(d.below(int(to-from+1))) }

// point is a point of the next of them.
func (d *draw) point(far api.Fix) api.Vec {
	return v(d.between(-far, far), d.between(-far, far), d.between(-far, far))
}

// drawn is a scene of lenses and tracks that breaks no rule; its tracks go so far.
func drawn(d *draw, far api.Fix) scene.Scene {
	s := scene.Scene{
		Header: scene.Header{Width: 1 + d.below(api.MaxSide), Height: 1 + d.below(api.MaxSide), Samples: 1, Depth: 1, Frames: 1 + d.below(api.MaxFrames), Shutter: d.between(0, one)},
	}
	for range 2 + d.below(4) {
		t := track.Track{Way: d.below(3)}
		for i := range api.Fix(1 + d.below(4)) {
			t.Keys = append(t.Keys, track.Key{Time: 8*i*one + d.between(0, 7*one), Value: d.point(far)})
		}
		s.Tracks = append(s.Tracks, t)
	}
	s.Lens = scene.Lens{Eye: d.below(len(s.Tracks)), Look: d.below(len(s.Tracks)), Wide: d.between(1, 8*one)}
	return s
}

// scenes break no rule; what they look at lies at all distances.
func scenes() []scene.Scene {
	d := draw(15)
	var l []scene.Scene
	for i := range 400 {
		l = append(l, drawn(&d, 1<<(i%32)))
	}
	return l
}

// places are numbers of all sizes, those beyond the span too.
func places() []api.Fix {
	return []api.Fix{math.MinInt64, -most - 1, -most, -7*one - 3, -one, -1, 0, 1, one / 3, one / 2, one - 1, one, one + 1, 3*one + 7, 90 * one, most - 1, most, most + 1, math.MaxInt64}
}

// sides are whole numbers of all sizes.
func sides() []int {
	return []int{math.MinInt, math.MinInt32, -32768, -3, -1, 0, 1, 2, 3, 7, 64, 16383, 16384, 32767, 32768, math.MaxInt32, math.MaxInt}
}

// odd are views that no scene has: of any numbers.
func odd() []view.View {
	d := draw(6)
	n, m := places(), sides()
	point := func() api.Vec { return v(n[d.below(len(n))], n[d.below(len(n))], n[d.below(len(n))]) }
	l := []view.View{{}, {Ahead: ones(0, 0, 1)}, {Ahead: ones(0, 0, 1), Wide: one, Width: 1, Height: 1}}
	for i := range 200 {
		x := view.View{Eye: point(), Ahead: point(), Right: point(), Up: point(), Wide: n[d.below(len(n))], Width: m[d.below(len(m))], Height: m[d.below(len(m))]}
		if i%2 == 0 {
			x.Ahead, x.Right, x.Up, x.Wide = d.point(one<<d.below(12)), d.point(one), d.point(one), d.between(1, 8*one)
		}
		l = append(l, x)
	}
	return l
}

// views are those of scenes, those between two of them, and odd ones.
func views() []view.View {
	l := odd()
	for i, s := range scenes() {
		a, b := view.At(s, s.Open(0)), view.At(s, s.Shut(s.Frames-1))
		l = append(l, a, view.Mix(a, b, api.Fix(i)*one/400))
	}
	return l
}

// P15.1: the chapter's example, the other axes; straight up and down, where no side is level, and at the eye itself.
func TestAtBySight(t *testing.T) {
	rows := []struct{ eye, look, ahead, right, up api.Vec }{
		{ones(0, 0, -4), ones(0, 0, 0), ones(0, 0, 1), ones(1, 0, 0), ones(0, 1, 0)},
		{ones(3, 2, 1), ones(3, 2, 7), ones(0, 0, 1), ones(1, 0, 0), ones(0, 1, 0)},
		{ones(3, 2, 1), ones(3, 2, 0), ones(0, 0, -1), ones(-1, 0, 0), ones(0, 1, 0)},
		{ones(3, 2, 1), ones(5, 2, 1), ones(1, 0, 0), ones(0, 0, -1), ones(0, 1, 0)},
		{ones(3, 2, 1), ones(1, 2, 1), ones(-1, 0, 0), ones(0, 0, 1), ones(0, 1, 0)},
		{ones(3, 2, 1), ones(3, 9, 1), ones(0, 1, 0), ones(1, 0, 0), ones(0, 0, -1)},
		{ones(3, 2, 1), ones(3, 0, 1), ones(0, -1, 0), ones(1, 0, 0), ones(0, 0, 1)},
		{ones(3, 2, 1), ones(3, 2, 1), ones(0, 0, 1), ones(1, 0, 0), ones(0, 1, 0)},
		{ones(0, 0, 0), ones(0, 0, 0), ones(0, 0, 1), ones(1, 0, 0), ones(0, 1, 0)},
	}
	for _, x := range rows {
		want := view.View{Eye: x.eye, Ahead: x.ahead, Right: x.right, Up: x.up, Wide: one * 3 / 4, Width: 5, Height: 7}
		if got := seen(x.eye, x.look, one*3/4, 5, 7); got != want {
			t.Errorf("from %v to %v: %v, not %v", x.eye, x.look, got, want)
		}
	}
}

// P15.1: views reckoned by another program; at last those at the edges: so near to the eye, or to straight up, that a square is rounded away or just isn't; so far that a square is held.
func TestAt(t *testing.T) {
	rows := []struct{ eye, look, ahead, right, up api.Vec }{
		{v(-174085, -380996, 153424), v(378527, -355283, -227528), v(53917, 2508, -37170), v(-37199, 0, -53959), v(-2065, 65491, 1424)},
		{v(-142659, -375516, -335599), v(321231, -238815, 335310), v(36759, 10832, 53163), v(53905, 0, -37273), v(-6161, 64634, -8909)},
		{v(-8082, -141857, -270397), v(-38716, 95766, 349379), v(-3022, 23436, 61127), v(65456, 0, 3236), v(1157, 61202, -23407)},
		{v(-20197, -99005, 18114), v(-117111, -32150, -153502), v(-30518, 21052, -54042), v(-57068, 0, 32226), v(10351, 62066, 18332)},
		{v(-176825, -20796, -64623), v(-158974, -72731, 368703), v(2678, -7793, 65016), v(65481, 0, -2698), v(320, 65072, 7787)},
		{v(142994, 47675, -150591), v(211969, 84448, 47055), v(21268, 11338, 60943), v(61877, 0, -21595), v(-3737, 64549, -10704)},
		{v(120189, -310422, 90289), v(198906, -15766, 67426), v(16867, 63138, -4900), v(-18285, 0, -62939), v(-60637, 17566, 17616)},
		{v(204069, -62752, 334522), v(283714, 79260, 31562), v(15175, 27059, -57728), v(-63384, 0, -16662), v(-6880, 59691, 26171)},
		{v(1, 2, 3), v(256, 3, 4), v(0, 0, one), v(one, 0, 0), v(0, one, 0)},
		{v(1, 2, 3), v(257, 3, 4), v(one, 256, 256), v(256, 0, -one), v(-256, 65537, -1)},
		{v(0, 0, 0), v(-255, -255, -255), v(0, 0, one), v(one, 0, 0), v(0, one, 0)},
		{v(0, 0, 0), v(-256, -256, -256), v(-37872, -37872, -37872), v(-46342, 0, 46341), v(-26780, 53560, -26780)},
		{v(0, 0, 0), v(255, one, -255), v(255, one, -255), v(one, 0, 0), v(0, -255, -one)},
		{v(0, 0, 0), v(256, one, 0), v(256, one, 0), v(0, 0, -one), v(-one, 256, 0)},
		{v(0, 0, 0), v(0, -3*one, 600), v(0, -one, 200), v(one, 0, 0), v(0, 200, one)},
		{v(0, 0, 0), v(0, -3*one, 900), v(0, -one, 299), v(76544, 0, 0), v(0, 349, 76544)},
		{v(0, 0, 0), v(300*one, 5*one, -200*one), v(108611, 1810, -72408), v(-36354, 0, -54530), v(-1507, 130538, 1005)},
		{v(-most, 0, 0), v(most, 0, 0), v(11863283, 0, 0), v(0, 0, -65537), v(0, 11863465, 0)},
		{v(most, -most, most), v(-most, most, -most), v(-11863284, 11863283, -11863284), v(-65537, 0, 65536), v(11863283, 23726749, 11863465)},
		{v(0, 0, 0), v(0, most, 0), v(0, 11863283, 0), v(one, 0, 0), v(0, 0, -11863283)},
	}
	for _, x := range rows {
		want := view.View{Eye: x.eye, Ahead: x.ahead, Right: x.right, Up: x.up, Wide: 1, Width: 64, Height: 1}
		if got := seen(x.eye, x.look, 1, 64, 1); got != want {
			t.Errorf("from %v to %v: %v, not %v", x.eye, x.look, got, want)
		}
	}
}

// P15.1: the eye and what it looks at go on with time, each along its own track.
func TestAtATime(t *testing.T) {
	s := scene.Scene{
		Header: scene.Header{Width: 3, Height: 4, Samples: 1, Depth: 1, Frames: 8},
		Lens:   scene.Lens{Eye: 2, Look: 0, Wide: 8 * one},
		Tracks: []track.Track{
			{Way: track.Step, Keys: []track.Key{{Value: ones(9, 0, 5)}, {Time: 4 * one, Value: ones(4, 0, -5)}}},
			track.Still(ones(-7, -7, -7)),
			{Way: track.Line, Keys: []track.Key{{Value: ones(1, 0, 5)}, {Time: 8 * one, Value: ones(9, 0, 5)}}},
		},
	}
	rows := []struct{ time, x api.Fix }{{-one, one}, {0, one}, {one, 2 * one}, {one / 2, one + one/2}, {2*one + 8, 3*one + 8}, {4*one - 8, 5*one - 8}}
	for _, x := range rows {
		want := view.View{Eye: v(x.x, 0, 5*one), Ahead: ones(1, 0, 0), Right: ones(0, 0, -1), Up: ones(0, 1, 0), Wide: 8 * one, Width: 3, Height: 4}
		if got := view.At(s, x.time); got != want {
			t.Errorf("at %d: %v, not %v", x.time, got, want)
		}
	}
	s.Lens.Look = 2
	if got := view.At(s, 3*one); got.Eye != ones(4, 0, 5) || got.Ahead != ones(0, 0, 1) {
		t.Errorf("looking at the eye itself: %v", got)
	}
	s.Lens = scene.Lens{Eye: 0, Look: 2, Wide: 1}
	s.Tracks[0].Keys[1].Value = ones(9, 0, 11)
	if got := view.At(s, 8*one); got != (view.View{Eye: ones(9, 0, 11), Ahead: ones(0, 0, -1), Right: ones(-1, 0, 0), Up: ones(0, 1, 0), Wide: 1, Width: 3, Height: 4}) {
		t.Errorf("the other way round: %v", got)
	}
}

// orElse is a direction, or another one, if it has no number but 0.
func orElse(a, other api.Vec) api.Vec {
	if a.X == 0 && a.Y == 0 && a.Z == 0 {
		return other
	}
	return a
}

// P15.1: word by word.
func TestAtWordByWord(t *testing.T) {
	for _, s := range scenes() {
		if e, at := scene.Check(s); e != api.OK {
			t.Fatalf("the scene breaks a rule: %d, %d", e, at)
		}
		for f := range s.Frames {
			for _, time := range []api.Fix{s.Open(f), s.Shut(f)} {
				eye := pose.Eye(s, time)
				ahead := orElse(vec.Unit(vec.Sub(pose.Look(s, time), eye)), v(0, 0, one))
				right := orElse(vec.Unit(vec.Cross(v(0, one, 0), ahead)), v(one, 0, 0))
				want := view.View{Eye: eye, Ahead: ahead, Right: right, Up: vec.Cross(ahead, right), Wide: s.Wide, Width: s.Width, Height: s.Height}
				if got := view.At(s, time); got != want {
					t.Fatalf("%v at %d: %v, not %v", s, time, got, want)
				}
			}
		}
	}
}

// R1: of scenes that break rules nothing is promised, but that the call ends.
func TestAtOfWrongScenes(t *testing.T) {
	for _, n := range places() {
		for _, side := range sides() {
			s := looking(v(n, 0, n), v(0, n, -n), n, side, side)
			view.At(s, n)
			s.Lens.Eye, s.Lens.Look = side, -side
			view.At(s, n)
			s.Tracks = nil
			view.At(s, n)
		}
	}
	view.At(scene.Scene{}, 0)
}

// P15.1: half of the way, at the ends, and beyond; the picture and how wide it is are the first one's.
func TestMix(t *testing.T) {
	a := view.View{Eye: ones(1, 2, 3), Ahead: ones(0, 0, 1), Right: ones(1, 0, 0), Up: ones(0, 1, 0), Wide: one, Width: 5, Height: 6}
	b := view.View{Eye: ones(3, 2, -1), Ahead: ones(1, 0, 0), Right: ones(0, 0, -1), Up: ones(0, -1, 0), Wide: 2 * one, Width: 7, Height: 8}
	half := view.View{Eye: ones(2, 2, 1), Ahead: v(one/2, 0, one/2), Right: v(one/2, 0, -one/2), Up: v(0, 0, 0), Wide: one, Width: 5, Height: 6}
	end := b
	end.Wide, end.Width, end.Height = a.Wide, a.Width, a.Height
	rows := []struct {
		t    api.Fix
		want view.View
	}{{0, a}, {-1, a}, {math.MinInt64, a}, {one / 2, half}, {one, end}, {one + 1, end}, {math.MaxInt64, end}}
	for _, x := range rows {
		if got := view.Mix(a, b, x.t); got != x.want {
			t.Errorf("%d: %v, not %v", x.t, got, x.want)
		}
	}
}

// P15.1: word by word.
func TestMixWordByWord(t *testing.T) {
	l := views()
	for i, a := range l {
		b := l[len(l)-1-i]
		for _, n := range places() {
			want := a
			want.Eye, want.Ahead, want.Right, want.Up = vec.Mix(a.Eye, b.Eye, n), vec.Mix(a.Ahead, b.Ahead, n), vec.Mix(a.Right, b.Right, n), vec.Mix(a.Up, b.Up, n)
			if got := view.Mix(a, b, n); got != want {
				t.Fatalf("%v and %v by %d: %v, not %v", a, b, n, got, want)
			}
			// The other way round it is another one: the picture isn't taken from the second view.
			if got := view.Mix(b, a, n); got.Wide != b.Wide || got.Width != b.Width || got.Height != b.Height {
				t.Fatalf("%v and %v by %d: %v", b, a, n, got)
			}
		}
	}
}

// near says whether two numbers are so near to each other.
func near(a, b, by api.Fix) bool { return fix.Abs(a-b) <= by }

// P15.1: the three directions stand square on each other, each One long, where nothing is held or rounded away.
func TestAtIsSquare(t *testing.T) {
	d := draw(77)
	for range 2000 {
		x := seen(d.point(20*one), d.point(20*one), one, 8, 8)
		if vec.Len(v(x.Ahead.X, 0, x.Ahead.Z)) < one/16 {
			continue
		}
		for _, a := range []api.Vec{x.Ahead, x.Right, x.Up} {
			if !near(vec.Len(a), one, 300) {
				t.Fatalf("%v: %v is %d long", x, a, vec.Len(a))
			}
		}
		if !near(vec.Dot(x.Ahead, x.Right), 0, 99) || !near(vec.Dot(x.Ahead, x.Up), 0, 99) || !near(vec.Dot(x.Right, x.Up), 0, 99) || x.Right.Y != 0 || x.Up.Y <= 0 {
			t.Fatalf("%v isn't square", x)
		}
	}
}
