package path_test

import (
	"math"
	"reflect"
	"slices"
	"testing"

	"zoetrope/api"
	"zoetrope/hue"
	"zoetrope/path"
	"zoetrope/pose"
	"zoetrope/scene"
	"zoetrope/track"
	"zoetrope/view"
)

// The calls, with the signatures that the chapter tells.
var (
	_ func(s scene.Scene, frame int) (*path.Set, api.Errno)     = path.Ready
	_ func(s *path.Set, x, y, sample int) path.Seen             = (*path.Set).Trace
	_ func(s *path.Set, x, y int) path.Seen                     = (*path.Set).Pixel
	_ func(s *path.Set, shape int, at api.Fix) pose.Placed      = (*path.Set).Placed
	_ func(s *path.Set) view.View                               = (*path.Set).Opened
	_ func(s path.Set) (scene.Scene, scene.Header, scene.Lens)  = func(s path.Set) (scene.Scene, scene.Header, scene.Lens) { return s.Scene, s.Header, s.Lens }
	_ func(s path.Set) (frame, frames int, paint []scene.Paint) = func(s path.Set) (int, int, []scene.Paint) { return s.Frame, s.Frames, s.Paints }
	_ struct {
		Light         hue.Hue
		Depth         api.Fix
		Normal, Point api.Vec
		Base          hue.Hue
		Shape         int
		Part          api.Fix
	} = path.Seen{}
)

const (
	one  = api.One
	most = api.Most
)

// v is a point of three numbers, in units.
func v(x, y, z api.Fix) api.Vec { return api.Vec{X: x, Y: y, Z: z} }

// ones is a point of three whole numbers.
func ones(x, y, z api.Fix) api.Vec { return v(x*one, y*one, z*one) }

// h is a light of three kinds, in units.
func h(r, g, b api.Fix) hue.Hue { return hue.Hue{R: r, G: g, B: b} }

// ball and face are shapes on a joint, of a paint.
func ball(joint, paint int, a api.Vec, radius api.Fix) scene.Shape {
	return scene.Shape{Base: scene.Base{Joint: joint, Paint: paint}, Kind: scene.Ball, A: a, Radius: radius}
}

func face(joint, paint int, a, b, c api.Vec) scene.Shape {
	return scene.Shape{Base: scene.Base{Joint: joint, Paint: paint}, Kind: scene.Face, A: a, B: b, C: c}
}

// line is a track from one point to another one, while a frame goes on to the next one.
func line(from, to api.Vec) track.Track {
	return track.Track{Way: track.Line, Keys: []track.Key{{Value: from}, {Time: one, Value: to}}}
}

// draw is a list of numbers without any order in them, the same ones in every run.
type draw uint64

// below is the next of them, from 0 on, below n.
func (d *draw) below(n int) int {
	*d = *d*6364136223846793005 + 1442695040888963407
	return int(uint64(*d) >> 32 % uint64(n))
}

// between is the next of them, from one end to the other.
func (d *draw) between(from, to api.Fix) api.Fix { return from + api.Fix(d.below(int(to-from+1))) }

// point is a point of the next of them.
func (d *draw) point(far api.Fix) api.Vec {
	return v(d.between(-far, far), d.between(-far, far), d.between(-far, far))
}

// light is a light that may be.
func (d *draw) light(most api.Fix) hue.Hue {
	return h(d.between(0, most), d.between(0, most), d.between(0, most))
}

// track is a track through some points.
func (d *draw) track(far api.Fix) track.Track {
	t := track.Track{Way: d.below(3)}
	for i := range api.Fix(1 + d.below(3)) {
		t.Keys = append(t.Keys, track.Key{Time: i*one + d.between(0, one-1), Value: d.point(far)})
	}
	return t
}

// shape is a shape not far from zero.
func (d *draw) shape(joints, paints int, far api.Fix) scene.Shape {
	on, of, a := d.below(joints+1)-1, d.below(paints), d.point(far)
	if d.below(2) == 0 {
		return ball(on, of, a, d.between(1, far/2))
	}
	return face(on, of, a, d.point(far), d.point(far))
}

// scene is a scene of some shapes and lamps, that breaks no rule.
func (d *draw) scene(shapes int) scene.Scene {
	far := 3 * one
	s := scene.Scene{
		Header: scene.Header{
			Width: 1 + d.below(9), Height: 1 + d.below(9), Samples: 1 + d.below(api.MaxSample), Depth: 1 + d.below(api.MaxDepth), Frames: 1 + d.below(4),
			Shutter: d.between(0, one), Seed: uint64(d.below(1<<32)) * 0x9e3779b97f4a7c15, Sky: d.light(one),
		},
		Lens: scene.Lens{Eye: 0, Look: 1, Wide: d.between(one/4, 2*one)},
		Paints: []scene.Paint{
			{Kind: scene.Glow, Color: d.light(16 * one)}, {Kind: scene.Glow, Color: d.light(4 * one)}, {Kind: scene.Matte, Color: d.light(one)}, {Kind: scene.Matte, Color: d.light(one)},
			{Kind: scene.Mirror, Color: d.light(one)}, {Kind: scene.Gloss, Color: d.light(one), Rough: d.between(0, one)}, {Kind: scene.Matte, Color: h(one, one, one)},
		},
		Tracks: []track.Track{d.track(one), d.track(one), d.track(one), d.track(one / 2)},
		Joints: []scene.Joint{{Parent: -1, Move: 2, Turn: 3, Size: d.between(one/2, 2*one)}, {Parent: 0, Move: -1, Turn: 3, Size: one}},
	}
	for i := range s.Tracks[0].Keys {
		s.Tracks[0].Keys[i].Value.Z -= 4 * one
	}
	for i := range shapes {
		x := d.shape(len(s.Joints), len(s.Paints), far)
		if len(s.Lamps()) == api.MaxLamps || i%3 == 1 {
			x.Paint = 2 + d.below(5)
		}
		s.Shapes = append(s.Shapes, x)
	}
	return s
}

// ready is a set of a scene that breaks no rule.
func ready(t *testing.T, s scene.Scene, frame int) *path.Set {
	t.Helper()
	set, e := path.Ready(s, frame)
	if set == nil || e != api.OK {
		t.Fatalf("%v, %d: %v, %d", s, frame, set, e)
	}
	return set
}

// copyOf is a scene that shares no memory with another one that is like it.
func copyOf(s scene.Scene) scene.Scene {
	s.Paints, s.Joints, s.Shapes = slices.Clone(s.Paints), slices.Clone(s.Joints), slices.Clone(s.Shapes)
	s.Tracks = slices.Clone(s.Tracks)
	for i := range s.Tracks {
		s.Tracks[i].Keys = slices.Clone(s.Tracks[i].Keys)
	}
	return s
}

// P17.1: a set has its scene and its frame.
func TestReady(t *testing.T) {
	d := draw(3)
	for range 100 {
		s := d.scene(d.below(12))
		for f := range s.Frames {
			set := ready(t, s, f)
			if !reflect.DeepEqual(set.Scene, s) || set.Frame != f || set.Width != s.Width || set.Pixels() != s.Pixels() || set.Open(f) != s.Open(f) || !slices.Equal(set.Lamps(), s.Lamps()) {
				t.Fatalf("%v, %d: %v", s, f, set)
			}
		}
	}
}

// P17.1: of a scene that breaks a rule the first one, whatever frame is asked for; else whether there is the frame.
func TestReadyErrors(t *testing.T) {
	d := draw(4)
	rows := []struct {
		want  api.Errno
		spoil func(s *scene.Scene)
	}{
		{api.ErrHeader, func(s *scene.Scene) { s.Width = 0 }},
		{api.ErrHeader, func(s *scene.Scene) { s.Frames = 0 }},
		{api.ErrHeader, func(s *scene.Scene) { *s = scene.Scene{} }},
		{api.ErrPaint, func(s *scene.Scene) { s.Paints[1].Kind, s.Wide = 4, 0 }},
		{api.ErrTrack, func(s *scene.Scene) { s.Tracks[0].Keys, s.Joints[0].Parent = nil, 7 }},
		{api.ErrJoint, func(s *scene.Scene) { s.Joints[1].Parent, s.Shapes[0].Paint = 1, -1 }},
		{api.ErrShape, func(s *scene.Scene) { s.Shapes[2].Paint = 7 }},
		{api.ErrLens, func(s *scene.Scene) { s.Eye = 4 }},
		{api.ErrLamp, func(s *scene.Scene) { s.Shapes = slices.Repeat([]scene.Shape{ball(-1, 0, ones(0, 0, 0), one)}, 17) }},
	}
	for _, x := range rows {
		s := d.scene(5)
		x.spoil(&s)
		if want, _ := scene.Check(s); want != x.want {
			t.Fatalf("%v breaks %d", s, want)
		}
		for _, f := range []int{0, -1, 1 << 40} {
			if set, e := path.Ready(s, f); set != nil || e != x.want {
				t.Errorf("%v, %d: %v, %d, not %d", s, f, set, e, x.want)
			}
		}
	}
	s := d.scene(5)
	s.Frames = 3
	for _, f := range []int{math.MinInt, -2, -1, 3, 4, api.MaxFrames, math.MaxInt} {
		if set, e := path.Ready(s, f); set != nil || e != api.ErrArg {
			t.Errorf("the frame %d of 3: %v, %d", f, set, e)
		}
	}
}

// P17.1, P17.2, R1: of a nil set, and of one that was never made ready.
func TestNoSet(t *testing.T) {
	wide := &path.Set{Scene: scene.Scene{Header: scene.Header{Depth: math.MinInt, Samples: math.MinInt}}}
	for _, set := range []*path.Set{nil, {}, wide} {
		for _, n := range []int{math.MinInt, -1, 0, 1, math.MaxInt} {
			for _, seen := range []path.Seen{set.Trace(0, 0, n), set.Trace(n, 0, 0), set.Pixel(n, 0), set.Pixel(0, n)} {
				if seen != (path.Seen{Shape: -1}) {
					t.Errorf("%v: %v", set, seen)
				}
			}
			if set.Placed(n, 0) != (pose.Placed{}) || set.Placed(0, api.Fix(n)) != (pose.Placed{}) || set.Opened() != (view.View{}) {
				t.Errorf("%v: %v, %v", set, set.Placed(n, 0), set.Opened())
			}
		}
	}
}

// P17.1: pixels beside the picture.
func TestNoPixel(t *testing.T) {
	d := draw(5)
	s := d.scene(4)
	s.Width, s.Height, s.Samples = 3, 2, 2
	set := ready(t, s, 0)
	none := path.Seen{Shape: -1}
	for _, p := range [][2]int{{-1, 0}, {3, 0}, {0, -1}, {0, 2}, {3, 2}, {-1, -1}, {2, 3}, {1, 5}, {-3, 1}, {6, -1}, {math.MinInt, 0}, {0, math.MinInt}, {math.MaxInt, 1}, {1, math.MaxInt}} {
		for _, n := range []int{0, 1, -1} {
			if got := set.Trace(p[0], p[1], n); got != none {
				t.Errorf("%v, the sample %d: %v", p, n, got)
			}
		}
		if got := set.Pixel(p[0], p[1]); got != none {
			t.Errorf("%v: %v", p, got)
		}
	}
	for x := range 3 {
		for y := range 2 {
			if set.Trace(x, y, 0).Depth == 0 || set.Pixel(x, y).Depth == 0 {
				t.Errorf("%d, %d: nothing is seen", x, y)
			}
		}
	}
}

// P17.2: shapes at a part of the time, where the frame has them; beyond its ends they stay.
func TestPlaced(t *testing.T) {
	s := scene.Scene{
		Header: scene.Header{Width: 1, Height: 1, Samples: 1, Depth: 1, Frames: 3, Shutter: one / 2},
		Lens:   scene.Lens{Wide: one},
		Paints: []scene.Paint{{}, {}},
		Tracks: []track.Track{{Way: track.Line, Keys: []track.Key{{}, {Time: 2 * one, Value: ones(8, 0, 0)}}}},
		Joints: []scene.Joint{{Parent: -1, Move: 0, Turn: -1, Size: 2 * one}},
		Shapes: []scene.Shape{ball(0, 1, ones(0, 1, 0), one), face(-1, 0, ones(1, 0, 0), ones(0, 1, 0), ones(0, 0, 1))},
	}
	set := ready(t, s, 1)
	rows := []struct{ at, x api.Fix }{{0, 4 * one}, {one / 2, 5 * one}, {one, 6 * one}, {-1, 4 * one}, {one + 1, 6 * one}, {math.MinInt64, 4 * one}, {math.MaxInt64, 6 * one}, {one / 4, 4*one + one/2}}
	for _, r := range rows {
		want := pose.Placed{Kind: scene.Ball, Paint: 1, P: [3]api.Vec{v(r.x, 2*one, 0)}, Radius: 2 * one}
		if got := set.Placed(0, r.at); got != want {
			t.Errorf("at %d: %v, not %v", r.at, got, want)
		}
		if got := set.Placed(1, r.at); got != (pose.Placed{Kind: scene.Face, P: [3]api.Vec{ones(1, 0, 0), ones(0, 1, 0), ones(0, 0, 1)}}) {
			t.Errorf("the face at %d: %v", r.at, got)
		}
	}
	for _, n := range []int{math.MinInt, -1, 2, 3, math.MaxInt} {
		if got := set.Placed(n, one/2); got != (pose.Placed{}) {
			t.Errorf("the shape %d: %v", n, got)
		}
	}
}

// P17.2: word by word.
func TestPlacedAndOpenedWordByWord(t *testing.T) {
	d := draw(6)
	for range 100 {
		s := d.scene(d.below(20))
		for f := range s.Frames {
			set, l := ready(t, s, f), pose.Frame(s, f)
			if got, want := set.Opened(), view.At(s, s.Open(f)); got != want {
				t.Fatalf("%v, %d: %v, not %v", s, f, got, want)
			}
			for i, m := range l {
				at := d.between(-9, one+9)
				if got := set.Placed(i, at); got != m.At(at) {
					t.Fatalf("%v, %d: the shape %d at %d: %v, not %v", s, f, i, at, got, m.At(at))
				}
			}
			if set.Placed(len(l), 0) != (pose.Placed{}) {
				t.Fatalf("%v, %d: one shape more", s, f)
			}
		}
	}
}

// all are all pixels of a set, and of each some samples.
func all(set *path.Set) []path.Seen {
	var l []path.Seen
	for y := range set.Height {
		for x := range set.Width {
			l = append(l, set.Pixel(x, y), set.Trace(x, y, 1), set.Trace(x, y, 5))
		}
	}
	return l
}

// R3: the scene that is handed in stays, and isn't kept; what the set has is its own.
func TestSceneIsNotKept(t *testing.T) {
	d := draw(7)
	for range 20 {
		s := d.scene(8)
		// Two tracks of the same keys: their lists are told apart, too.
		s.Tracks[2].Keys = s.Tracks[0].Keys
		kept := copyOf(s)
		set := ready(t, s, 0)
		before := all(set)
		if !reflect.DeepEqual(s, kept) {
			t.Fatalf("the scene is now %v", s)
		}
		for _, k := range s.Tracks {
			clear(k.Keys[:cap(k.Keys)])
		}
		clear(s.Paints[:cap(s.Paints)])
		clear(s.Tracks[:cap(s.Tracks)])
		clear(s.Joints[:cap(s.Joints)])
		clear(s.Shapes[:cap(s.Shapes)])
		if !reflect.DeepEqual(set.Scene, kept) || !slices.Equal(all(set), before) {
			t.Fatalf("the set is now %v", set)
		}
		clear(set.Tracks[0].Keys)
		if !reflect.DeepEqual(set.Tracks[1:], kept.Tracks[1:]) {
			t.Fatalf("two tracks share their keys")
		}
	}
}

// R1: a set whose scene was changed by hand tells nothing that is promised, but its calls end.
func TestChangedSets(t *testing.T) {
	d := draw(8)
	wild := []int{math.MinInt, -1, 0, 1, 4, 200, math.MaxInt}
	number := func() int { return wild[d.below(len(wild))] }
	for range 400 {
		set := ready(t, d.scene(1+d.below(12)), 0)
		switch d.below(5) {
		case 0:
			set.Width, set.Height, set.Frame, set.Frames = number(), number(), number(), number()
		case 1:
			set.Samples, set.Depth = number(), number()
			for i := range set.Paints {
				set.Paints[i] = scene.Paint{Kind: scene.Mirror, Color: h(one, one, one)}
			}
		case 2:
			for i := range set.Shapes {
				set.Shapes[i].Paint, set.Shapes[i].Kind, set.Shapes[i].Joint = number(), number(), number()
			}
		case 3:
			set.Shapes, set.Paints, set.Tracks, set.Joints = set.Shapes[:d.below(len(set.Shapes)+1)], nil, nil, nil
		case 4:
			set.Paints = set.Paints[:d.below(4)]
			for i := range set.Paints {
				set.Paints[i] = scene.Paint{Kind: d.below(6) - 1, Color: h(math.MinInt64, math.MaxInt64, -1), Rough: math.MinInt64}
			}
		}
		for range 20 {
			set.Trace(d.below(4), d.below(4), number())
			set.Trace(number(), number(), 0)
			set.Pixel(d.below(2), d.below(2))
			set.Placed(number(), api.Fix(number()))
		}
		set.Opened()
	}
}

// R1: light that a mirror keeps for ever ends, too, however deep a scene was made by hand.
func TestNoEnd(t *testing.T) {
	p := []scene.Paint{{Kind: scene.Mirror, Color: h(one, one, one)}}
	set := ready(t, straight(1, p, ball(-1, 0, ones(0, 0, 0), one)), 0)
	set.Depth, set.Samples = math.MaxInt, math.MaxInt
	for n := range 20 {
		set.Trace(0, 0, n)
	}
	set.Pixel(0, 0)
}
