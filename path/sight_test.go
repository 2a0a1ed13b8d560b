package path_test

import (
	"testing"

	"zoetrope/api"
	"zoetrope/dice"
	"zoetrope/fix"
	"zoetrope/hue"
	"zoetrope/path"
	"zoetrope/scene"
	"zoetrope/track"
)

// straight is a scene of some shapes that is seen from zero along the third axis, by so narrow a lens that some rays go just along it.
func straight(depth int, paints []scene.Paint, shapes ...scene.Shape) scene.Scene {
	return scene.Scene{
		Header: scene.Header{Width: 1, Height: 1, Samples: 1, Depth: depth, Frames: 1, Seed: 77, Sky: h(one, one/2, one/4)},
		Lens:   scene.Lens{Eye: 0, Look: 1, Wide: 1},
		Paints: paints,
		Tracks: []track.Track{track.Still(ones(0, 0, 0)), track.Still(ones(0, 0, 1))},
		Shapes: shapes,
	}
}

// keyOf is what a sample of the only pixel draws by.
func keyOf(s scene.Scene, frame, sample int) dice.Key {
	return dice.Key{Seed: s.Seed, Frame: frame, Sample: sample}
}

// alongAxis are samples whose ray goes just along the axis: those of a pixel's upper right quarter, where nothing is rounded to below 0.
func alongAxis(s scene.Scene, frame int) []int {
	var l []int
	for n := range 400 {
		if k := keyOf(s, frame, n); k.Unit(0) >= one/2 && k.Unit(1) <= one/2 && k.Unit(1) > 0 {
			l = append(l, n)
		}
	}
	return l
}

// seen is what such samples of a scene's frame 0 see: light that doesn't hang on the sample, but for the part.
func seen(t *testing.T, s scene.Scene) path.Seen {
	t.Helper()
	set := ready(t, s, 0)
	l := alongAxis(s, 0)
	first := set.Trace(0, 0, l[0])
	for _, n := range l {
		got := set.Trace(0, 0, n)
		if got.Part != keyOf(s, 0, n).Unit(2) {
			t.Errorf("the sample %d: the part is %d", n, got.Part)
		}
		if got.Part = first.Part; got != first {
			t.Fatalf("the sample %d: %v, not %v", n, got, first)
		}
	}
	first.Part = 0
	return first
}

// The paints of the scenes here, by their kinds, and one more lamp.
func paints() []scene.Paint {
	return []scene.Paint{
		{Kind: scene.Matte, Color: h(one, one/2, one/4)}, {Kind: scene.Mirror, Color: h(one/2, one/4, one/8)}, {Kind: scene.Gloss, Color: h(one/4, one/2, one)}, {Kind: scene.Glow, Color: h(8*one, 4*one, 2*one)}, {Kind: scene.Glow, Color: h(16*one, 16*one, 16*one)},
	}
}

// wall is a face across the axis, so far on, of a paint; not so wide that what its normal is reckoned by is held.
func wall(paint int, z api.Fix) scene.Shape {
	return face(-1, paint, ones(-6, -6, z), ones(6, -6, z), ones(0, 6, z))
}

// spark is a lamp of one point: a face without any width, that no ray meets.
func spark(paint int, at api.Vec) scene.Shape { return face(-1, paint, at, at, at) }

// P17.1: the chapter's example: without shapes there is but the sky.
func TestSky(t *testing.T) {
	for depth := 1; depth <= api.MaxDepth; depth++ {
		s := straight(depth, nil)
		want := path.Seen{Light: s.Sky, Depth: most, Shape: -1}
		if got := seen(t, s); got != want {
			t.Errorf("%d bounces: %v", depth, got)
		}
		s.Width, s.Height, s.Samples, s.Wide = 5, 4, 7, one
		set := ready(t, s, 0)
		for x := range 5 {
			for y := range 4 {
				got := set.Pixel(x, y)
				if got.Part = 0; got != want {
					t.Errorf("%d, %d: %v", x, y, got)
				}
			}
		}
	}
}

// P17.1: what is met first tells all that is seen; the first hit lies behind Near.
func TestFirstHit(t *testing.T) {
	lit := paints()[3].Color
	rows := []struct {
		shapes []scene.Shape
		want   path.Seen
	}{
		{[]scene.Shape{ball(-1, 3, ones(0, 0, 4), one)}, path.Seen{Light: lit, Depth: 3 * one, Normal: ones(0, 0, -1), Point: ones(0, 0, 3), Base: lit}},
		{[]scene.Shape{ball(-1, 4, ones(0, 0, 9), one), wall(3, 2)}, path.Seen{Light: lit, Depth: 2 * one, Normal: ones(0, 0, -1), Point: ones(0, 0, 2), Base: lit, Shape: 1}},
		{[]scene.Shape{wall(3, 2), wall(4, 2)}, path.Seen{Light: lit, Depth: 2 * one, Normal: ones(0, 0, -1), Point: ones(0, 0, 2), Base: lit}},
		{[]scene.Shape{ball(-1, 3, ones(0, 0, 0), one)}, path.Seen{Light: lit, Depth: one, Normal: ones(0, 0, -1), Point: ones(0, 0, 1), Base: lit}},
		{[]scene.Shape{ball(-1, 3, v(0, 0, one+1024), one), wall(4, 5)}, path.Seen{Light: lit, Depth: 2*one + 1024, Normal: ones(0, 0, -1), Point: v(0, 0, 2*one+1024), Base: lit}},
		{[]scene.Shape{ball(-1, 3, v(0, 0, one+1025), one), wall(4, 5)}, path.Seen{Light: lit, Depth: 1025, Normal: ones(0, 0, -1), Point: v(0, 0, 1025), Base: lit}},
		{[]scene.Shape{wall(3, -2)}, path.Seen{Light: h(one, one/2, one/4), Depth: most, Shape: -1}},
	}
	for _, x := range rows {
		for _, depth := range []int{1, 2, api.MaxDepth} {
			if got := seen(t, straight(depth, paints(), x.shapes...)); got != x.want {
				t.Errorf("%v: %v, not %v", x.shapes, got, x.want)
			}
		}
	}
}

// P17.1: what a mirror shows counts by its color, and needs a bounce more; all but the light is the mirror's.
func TestMirrors(t *testing.T) {
	mirror := paints()[1].Color
	before := path.Seen{Depth: 4 * one, Normal: ones(0, 0, -1), Point: ones(0, 0, 4), Base: mirror}
	rows := []struct {
		behind []scene.Shape
		depth  int
		want   hue.Hue
	}{
		{nil, 1, hue.Hue{}}, {nil, 2, h(one/2, one/8, one/32)}, {nil, 6, h(one/2, one/8, one/32)},
		{[]scene.Shape{wall(3, -2)}, 1, hue.Hue{}}, {[]scene.Shape{wall(3, -2)}, 2, h(4*one, one, one/4)}, {[]scene.Shape{wall(3, -2)}, 6, h(4*one, one, one/4)},
		{[]scene.Shape{wall(4, -3), wall(3, -2)}, 2, h(4*one, one, one/4)}, {[]scene.Shape{wall(1, -3)}, 2, hue.Hue{}},
	}
	for _, x := range rows {
		want := before
		want.Light = x.want
		if got := seen(t, straight(x.depth, paints(), append([]scene.Shape{wall(1, 4)}, x.behind...)...)); got != want {
			t.Errorf("%d bounces, behind it %v: %v, not %v", x.depth, x.behind, got, want)
		}
	}
	// Gloss that isn't rough shows the same.
	before.Base, before.Light = paints()[2].Color, h(2*one, 2*one, 2*one)
	if got := seen(t, straight(2, paints(), wall(2, 4), wall(3, -2))); got != before {
		t.Errorf("gloss: %v, not %v", got, before)
	}
}

// P17.1: matte surfaces ask a lamp: they are four ones away from zero; what comes grows less with the square of how far, and one stands for all.
func TestFromLamps(t *testing.T) {
	matte := paints()[0].Color
	// Of a lamp three ones off, seen square: one by ten; five ones off and aslant by four by five: that by 26.
	near, aslant := fix.Div(one, 10*one), fix.Div(fix.Div(4*one, 5*one), 26*one)
	lit := func(much api.Fix, lamps int, of hue.Hue) hue.Hue {
		return hue.Scale(hue.Mul(matte, of), fix.Mul(much, fix.Of(lamps)))
	}
	eight, sixteen := paints()[3].Color, paints()[4].Color
	rows := []struct {
		lamps []scene.Shape
		want  hue.Hue
	}{
		{nil, hue.Hue{}},
		{[]scene.Shape{spark(3, ones(0, 0, 1))}, lit(near, 1, eight)},
		{[]scene.Shape{spark(4, ones(0, 0, 1))}, lit(near, 1, sixteen)},
		{[]scene.Shape{spark(3, ones(3, 0, 0))}, lit(aslant, 1, eight)},
		{[]scene.Shape{spark(3, ones(0, 0, 1)), spark(3, ones(0, 0, 1))}, lit(near, 2, eight)},
		{[]scene.Shape{spark(3, ones(0, 0, 1)), spark(3, ones(0, 0, 1)), spark(3, ones(0, 0, 1))}, lit(near, 3, eight)},
		{[]scene.Shape{spark(3, ones(3, 0, 0)), spark(3, ones(0, 3, 0)), spark(3, ones(0, -3, 0))}, lit(aslant, 3, eight)},
		// From behind the wall, and along it.
		{[]scene.Shape{spark(3, ones(0, 0, 7))}, hue.Hue{}},
		{[]scene.Shape{spark(3, ones(3, 0, 4))}, hue.Hue{}},
		{[]scene.Shape{spark(3, ones(0, 0, 4))}, hue.Hue{}},
		// What stands between hides it, be it a lamp, too; what stands behind it, or beside, doesn't.
		{[]scene.Shape{spark(3, ones(3, 0, 0)), ball(-1, 0, v(one+one/2, 0, 2*one), one)}, hue.Hue{}},
		{[]scene.Shape{spark(3, ones(3, 0, 0)), ball(-1, 1, v(one+one/2, 0, 2*one), one)}, hue.Hue{}},
		{[]scene.Shape{spark(3, ones(3, 0, 0)), ball(-1, 0, v(6*one, 0, -4*one), one)}, lit(aslant, 1, eight)},
		{[]scene.Shape{spark(3, ones(3, 0, 0)), ball(-1, 0, v(-one-one/2, 0, 2*one), one)}, lit(aslant, 1, eight)},
		// What is nearer to the wall than Near doesn't hide it.
		{[]scene.Shape{spark(3, ones(3, 0, 0)), face(-1, 0, v(1, 0, 4*one-816), v(one, -one, 4*one-816), v(one, one, 4*one-816))}, lit(aslant, 1, eight)},
		{[]scene.Shape{spark(3, ones(3, 0, 0)), face(-1, 0, v(1, 0, 4*one-824), v(one, -one, 4*one-824), v(one, one, 4*one-824))}, hue.Hue{}},
	}
	for _, x := range rows {
		want := path.Seen{Light: x.want, Depth: 4 * one, Normal: ones(0, 0, -1), Point: ones(0, 0, 4), Base: matte}
		if got := seen(t, straight(1, paints(), append([]scene.Shape{wall(0, 4)}, x.lamps...)...)); got != want {
			t.Errorf("of %v: %v, not %v", x.lamps, got, want)
		}
	}
}

// P17.1: which lamp is asked is drawn, as is the point on it; of two that differ each is asked by its samples.
func TestWhichLamp(t *testing.T) {
	s := straight(1, paints(), wall(0, 4), spark(3, ones(0, 0, 1)), spark(4, ones(3, 0, 0)), spark(3, ones(0, 0, 7)))
	set := ready(t, s, 0)
	near, aslant := fix.Div(one, 10*one), fix.Div(fix.Div(4*one, 5*one), 26*one)
	want := []hue.Hue{
		hue.Scale(hue.Mul(paints()[0].Color, paints()[3].Color), 3*near),
		hue.Scale(hue.Mul(paints()[0].Color, paints()[4].Color), 3*aslant),
		{},
	}
	var many [3]int
	for _, n := range alongAxis(s, 0) {
		lamp := keyOf(s, 0, n).Below(3, 3)
		many[lamp]++
		if got := set.Trace(0, 0, n).Light; got != want[lamp] {
			t.Errorf("the sample %d asks the lamp %d: %v, not %v", n, lamp, got, want[lamp])
		}
	}
	if many[0] == 0 || many[1] == 0 || many[2] == 0 {
		t.Errorf("asked %v", many)
	}
}

// P17.1: a lamp's own near side doesn't hide its far one.
func TestLampIsNotHiddenByItself(t *testing.T) {
	s := straight(1, paints(), wall(0, 4), ball(-1, 3, ones(5, 0, 0), 2*one), ball(-1, 3, ones(-5, 0, 0), 2*one))
	set := ready(t, s, 0)
	for _, n := range alongAxis(s, 0) {
		if got := set.Trace(0, 0, n).Light; got.R == 0 || got.G == 0 || got.B == 0 {
			t.Errorf("the sample %d: %v", n, got)
		}
	}
}

// P17.1: what a matte surface sends on meets lamps for nothing, for they were asked already; what a mirror sends on doesn't.
func TestLampsCountOnce(t *testing.T) {
	about := ball(-1, 3, ones(0, 0, 0), 60*one)
	for _, paint := range []int{0, 1, 2} {
		shapes := []scene.Shape{wall(paint, 4), about, spark(3, ones(0, 0, 1))}
		short, long := straight(1, paints(), shapes...), straight(api.MaxDepth, paints(), shapes...)
		a, b := ready(t, short, 0), ready(t, long, 0)
		for _, n := range alongAxis(short, 0) {
			want := a.Trace(0, 0, n)
			if paint != 0 {
				want.Light = hue.Mul(paints()[paint].Color, paints()[3].Color)
			}
			if got := b.Trace(0, 0, n); got != want {
				t.Errorf("of %v, the sample %d: %v, not %v", paints()[paint], n, got, want)
			}
		}
	}
}

// P17.1: behind a mirror the way is sharp again, wherever it came from: a matte wall sends all into a mirror all around, which gathers it about a lamp.
func TestSharpAgain(t *testing.T) {
	p := paints()
	p[0].Color, p[1].Color = h(one, one, one), h(one, one, one)
	s := straight(3, p, wall(0, 4), ball(-1, 1, ones(0, 0, 0), 20*one), ball(-1, 3, ones(0, 0, -4), one/3))
	short := s
	short.Depth = 2
	set, once := ready(t, s, 0), ready(t, short, 0)
	var many [2]int
	for _, n := range alongAxis(s, 0) {
		got, less := set.Trace(0, 0, n).Light, once.Trace(0, 0, n).Light
		// What isn't the lamp's whole light is what it sends to the wall again, which is much less.
		switch {
		case got == hue.Add(less, p[3].Color):
			many[0]++
		case hue.Sub(got, less).R < one:
			many[1]++
		default:
			t.Errorf("the sample %d: %v, with a bounce less %v", n, got, less)
		}
	}
	if many[0] == 0 || many[1] == 0 {
		t.Errorf("%d samples met the lamp by the mirror, %d didn't", many[0], many[1])
	}
}

// P17.1: from the second bounce on a way lives or ends: of two mirrors of a half each it goes on by a quarter, and counts in full then.
func TestLives(t *testing.T) {
	p := []scene.Paint{{Kind: scene.Mirror, Color: h(one/2, one/2, one/2)}}
	// The first one turns the way up, the second one aside, into the sky.
	up := face(-1, 0, ones(-9, -9, -5), ones(9, -9, -5), ones(0, 9, 13))
	aside := face(-1, 0, ones(-9, -1, 9), ones(9, 17, 9), ones(0, 8, -9))
	for depth := 1; depth <= api.MaxDepth; depth++ {
		s := straight(depth, p, up, aside)
		set := ready(t, s, 0)
		var many [2]int
		for _, n := range alongAxis(s, 0) {
			want := hue.Hue{}
			if lives := keyOf(s, 0, n).Unit(3+8+5) < one/4; depth > 2 && lives {
				want = s.Sky
				many[0]++
			} else {
				many[1]++
			}
			if got := set.Trace(0, 0, n).Light; got != want {
				t.Errorf("%d bounces, the sample %d: %v, not %v", depth, n, got, want)
			}
		}
		if many[1] == 0 || depth > 2 && many[0] == 0 {
			t.Errorf("%d bounces: %v", depth, many)
		}
	}
	// One mirror alone lets through what it does, each time.
	if got := seen(t, straight(6, p, wall(0, 4))); got.Light != h(one/2, one/4, one/8) {
		t.Errorf("one mirror: %v", got)
	}
}

// P17.1: a sample sees shapes, and looks, at its part of the time in which the frame's shutter is open.
func TestParts(t *testing.T) {
	goes := func(from, to api.Vec) track.Track {
		return track.Track{Way: track.Line, Keys: []track.Key{{Time: 2 * one, Value: from}, {Time: 3 * one, Value: to}}}
	}
	s := straight(1, paints(), scene.Shape{Base: scene.Base{Joint: 0, Paint: 3}, Kind: scene.Ball, Radius: one})
	s.Frames, s.Shutter = 3, one/2
	s.Joints = []scene.Joint{{Parent: -1, Move: 2, Turn: -1, Size: one}}
	for _, eye := range []bool{false, true} {
		s.Tracks = []track.Track{track.Still(ones(0, 0, 0)), track.Still(ones(0, 0, 1)), goes(ones(0, 0, 4), ones(0, 0, 12))}
		if eye {
			s.Tracks = []track.Track{goes(ones(0, 0, 4), ones(0, 0, -4)), track.Still(ones(0, 0, 64)), track.Still(ones(0, 0, 8))}
		}
		set := ready(t, s, 2)
		for _, n := range alongAxis(s, 2) {
			part := keyOf(s, 2, n).Unit(2)
			got, far := set.Trace(0, 0, n), fix.Lerp(3*one, 7*one, part)
			if got.Part != part || got.Depth < far-1 || got.Depth > far+1 || got.Shape != 0 || got.Normal != ones(0, 0, -1) {
				t.Errorf("at %d: %v, not %d on", part, got, far)
			}
		}
	}
}

// P17.1: the picture's pixels: each sees what lies there, its upper left one first.
func TestPixelsLieSideBySide(t *testing.T) {
	var shapes []scene.Shape
	p := []scene.Paint{}
	for i := range 6 {
		x, y := api.Fix(i%3), api.Fix(i/3)
		p = append(p, scene.Paint{Kind: scene.Glow, Color: h(api.Fix(i+1), 0, 0)})
		// Three pixels of two units each side by side, in a picture two pixels high: seen by a lens One wide, one from the axis is a side of a pixel four ones on.
		a := ones(-6+4*x, 4-4*y, 4)
		shapes = append(shapes, face(-1, i, a, v(a.X+8*one, a.Y, a.Z), v(a.X, a.Y-8*one, a.Z)))
	}
	// Faces reach beyond their pixels, to the right and below: the later one stands before the earlier one there.
	for i := range shapes {
		z := api.Fix(i) * 64
		shapes[i].A.Z, shapes[i].B.Z, shapes[i].C.Z = 4*one-z, 4*one-z, 4*one-z
	}
	s := straight(1, p, shapes...)
	s.Width, s.Height, s.Wide, s.Samples = 3, 2, one, 16
	set := ready(t, s, 0)
	var many [6]int
	for i := range 6 {
		for n := range 16 {
			if got := set.Trace(i%3, i/3, n).Shape; got == i {
				many[i]++
			}
		}
		if many[i] < 12 {
			t.Errorf("the pixel %d sees its shape by %d samples of 16", i, many[i])
		}
	}
}

// P17.1: where a paint turns nothing on, there the way ends. A face so small that its normal is rounded to zero has no side.
func TestWayEnds(t *testing.T) {
	for i, p := range paints()[:3] {
		small := face(-1, i, v(-1024, -2048, 4*one), v(1024, -2048, 4*one), v(0, 2048, 4*one))
		want := path.Seen{Depth: 4 * one, Point: ones(0, 0, 4), Base: p.Color}
		for depth := 1; depth <= api.MaxDepth; depth++ {
			if got := seen(t, straight(depth, paints(), small, spark(3, ones(0, 0, 1)))); got != want {
				t.Errorf("%v, %d bounces: %v, not %v", p, depth, got, want)
			}
		}
	}
}

// W6: without sky and lamps all is black.
func TestNoLightFromNowhere(t *testing.T) {
	d := draw(10)
	for range 60 {
		s := d.scene(12)
		s.Sky = hue.Hue{}
		for i := range s.Shapes {
			if s.Shapes[i].Paint < 2 {
				s.Shapes[i].Paint += 2
			}
		}
		for _, x := range all(ready(t, s, 0)) {
			if x.Light != (hue.Hue{}) {
				t.Fatalf("%v: %v", s, x)
			}
		}
	}
}
