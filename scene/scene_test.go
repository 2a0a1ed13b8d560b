package scene_test

import (
	"math"
	"reflect"
	"slices"
	"testing"

	"zoetrope/api"
	"zoetrope/hue"
	"zoetrope/scene"
	"zoetrope/track"
)

// The calls, with the signatures that the chapter tells.
var (
	_ func(scene.Header) int             = scene.Header.Pixels
	_ func(scene.Header, int) api.Fix    = scene.Header.Open
	_ func(scene.Header, int) api.Fix    = scene.Header.Shut
	_ func(scene.Base) bool              = scene.Base.Hangs
	_ func(scene.Shape) []api.Vec        = scene.Shape.Corners
	_ func(scene.Scene) []int            = scene.Scene.Lamps
	_ func(scene.Scene) (api.Errno, int) = scene.Check
	_ func(scene.Scene) int              = scene.Scene.Pixels
	_ func(scene.Shape) bool             = scene.Shape.Hangs
	_ struct {
		Eye, Look int
		Wide      api.Fix
	} = scene.Lens{}
	_ struct{ Joint, Paint int } = scene.Base{}
	_ struct {
		Width, Height, Samples, Depth, Frames int
		Shutter                               api.Fix
		Seed                                  uint64
		Sky                                   hue.Hue
	} = scene.Header{}
	_ struct {
		Kind  int
		Color hue.Hue
		Rough api.Fix
	} = scene.Paint{}
	_ struct {
		Parent, Move, Turn int
		Size               api.Fix
	} = scene.Joint{}
	_ struct {
		scene.Base
		Kind    int
		A, B, C api.Vec
		Radius  api.Fix
	} = scene.Shape{}
	_ struct {
		scene.Header
		scene.Lens
		Paints []scene.Paint
		Tracks []track.Track
		Joints []scene.Joint
		Shapes []scene.Shape
	} = scene.Scene{}
	_ [4]struct{} = [scene.Glow + 1]struct{}{scene.Matte: {}, scene.Mirror: {}, scene.Gloss: {}}
	_ [2]struct{} = [scene.Face + 1]struct{}{scene.Ball: {}}
)

const one = api.One

// v is a point of three numbers, in units.
func v(x, y, z api.Fix) api.Vec { return api.Vec{X: x, Y: y, Z: z} }

// ball is a ball about a point, face a face of three of them.
func ball(joint, paint int, a api.Vec, radius api.Fix) scene.Shape {
	return scene.Shape{Base: scene.Base{Joint: joint, Paint: paint}, Kind: scene.Ball, A: a, Radius: radius}
}

func face(joint, paint int, a, b, c api.Vec) scene.Shape {
	return scene.Shape{Base: scene.Base{Joint: joint, Paint: paint}, Kind: scene.Face, A: a, B: b, C: c}
}

// bare is a scene of one track, that is looked from and to.
func bare() scene.Scene {
	return scene.Scene{
		Header: scene.Header{Width: 1, Height: 1, Samples: 1, Depth: 1, Frames: 1},
		Lens:   scene.Lens{Wide: one},
		Tracks: []track.Track{track.Still(v(1, 2, 3))},
	}
}

// usual is a scene of four paints, three tracks, three joints, four shapes: a ball, a face, a lamp, a face.
func usual() scene.Scene {
	return scene.Scene{
		Header: scene.Header{Width: 3, Height: 2, Samples: 4, Depth: 3, Frames: 5, Shutter: one / 2, Seed: 7, Sky: hue.Hue{R: one, G: 2 * one, B: 1}},
		Lens:   scene.Lens{Eye: 1, Look: 2, Wide: one},
		Paints: []scene.Paint{
			{Kind: scene.Matte, Color: hue.Hue{R: one / 2, G: 1, B: 3}}, {Kind: scene.Mirror, Color: hue.Gray(one)},
			{Kind: scene.Gloss, Color: hue.Hue{G: one / 3}, Rough: one / 4}, {Kind: scene.Glow, Color: hue.Gray(9 * one)},
		},
		Tracks: []track.Track{track.Still(v(0, one, 0)), track.Still(v(5, 5, -4*one)), track.Still(v(0, 0, 0))},
		Joints: []scene.Joint{{Parent: -1, Move: 0, Turn: 1, Size: one}, {Parent: 0, Move: -1, Turn: 2, Size: one / 2}, {Parent: -1, Move: 2, Turn: -1, Size: 3 * one}},
		Shapes: []scene.Shape{
			ball(-1, 0, v(one, -one, 3), one), face(1, 2, v(0, 0, 0), v(one, 0, 0), v(0, -one, 9)),
			ball(2, 3, v(0, 7*one, 0), 2*one), face(0, 1, v(-one, 5, 6), v(7, 8*one, 9), v(1, 2, 3)),
		},
	}
}

// full is a scene that has as much of all as it may have, up to the ends of what its numbers may be.
func full() scene.Scene {
	s := scene.Scene{
		Header: scene.Header{Width: 64, Height: 64, Samples: 16, Depth: 6, Frames: 32, Shutter: one, Seed: math.MaxUint64, Sky: hue.Gray(16 * one)},
		Lens:   scene.Lens{Eye: 31, Look: 30, Wide: 8 * one},
	}
	for i := range 32 {
		var keys []track.Key
		for k := range api.Fix(16) {
			keys = append(keys, track.Key{Time: 2*k*one + 2*k/15*one, Value: v(api.Most, -k, -api.Most)})
		}
		s.Paints = append(s.Paints, scene.Paint{Kind: i % 4, Color: hue.Gray(16 * one), Rough: one})
		s.Tracks = append(s.Tracks, track.Track{Way: i % 3, Keys: keys})
		s.Joints = append(s.Joints, scene.Joint{Parent: i - 1, Move: 31, Turn: 31 - i, Size: 64 * one})
	}
	far := v(256*one, -256*one, 256*one)
	for i := range 64 {
		s.Shapes = append(s.Shapes, ball(31, i%4, far, 64*one), face(i%32-1, i%3, far, v(-256*one, 256*one, -256*one), far))
	}
	return s
}

// rightScenes are scenes that break no rule.
func rightScenes() []scene.Scene {
	alone := bare()
	alone.Shapes = []scene.Shape{ball(-1, 0, v(0, 0, 0), 1)}
	alone.Paints = []scene.Paint{{}}
	return []scene.Scene{bare(), alone, usual(), full()}
}

// copyOf is a scene that shares no memory with another one that is like it.
func copyOf(s scene.Scene) scene.Scene {
	s.Paints, s.Joints, s.Shapes = slices.Clone(s.Paints), slices.Clone(s.Joints), slices.Clone(s.Shapes)
	s.Tracks = slices.Clone(s.Tracks)
	for i := range s.Tracks {
		s.Tracks[i].Keys = slices.Clone(s.Tracks[i].Keys)
	}
	return s
}

// P8.2
func TestPixels(t *testing.T) {
	for w := 1; w <= 64; w++ {
		for h := 1; h <= 64; h++ {
			s := bare()
			s.Width, s.Height = w, h
			if s.Header.Pixels() != w*h || s.Pixels() != w*h {
				t.Errorf("Pixels of %d by %d = %d", w, h, s.Pixels())
			}
		}
	}
}

// P8.2: a frame's shutter opens at its number, and shuts the Shutter later.
func TestOpenAndShut(t *testing.T) {
	for _, shutter := range []api.Fix{0, 1, one / 2, one - 1, one} {
		s := full()
		s.Shutter = shutter
		for f := range 32 {
			from := api.Fix(f) * 65536
			if s.Header.Open(f) != from || s.Open(f) != from || s.Header.Shut(f) != from+shutter || s.Shut(f) != from+shutter {
				t.Errorf("shutter %d, frame %d: from %d to %d", shutter, f, s.Open(f), s.Shut(f))
			}
		}
	}
}

// R1, R6: of headers and frames that may not be nothing is told, but the calls end, and nothing goes beyond what those that may be have.
func TestWildHeaders(t *testing.T) {
	wild := []int{math.MinInt, -1, 0, 1, 32, 65, 1 << 48, math.MaxInt}
	for _, a := range wild {
		for _, b := range wild {
			h := scene.Header{Width: a, Height: b, Frames: a, Shutter: api.Fix(b)}
			pixels, open, shut := h.Pixels(), h.Open(a), h.Shut(a)
			if pixels < 0 || pixels > 64*64 || open < 0 || open >= 32*one || shut < open || shut > open+one {
				t.Errorf("%v: Pixels %d, Open(%d) %d, Shut %d", h, pixels, a, open, shut)
			}
		}
	}
}

// P8.2
func TestHangs(t *testing.T) {
	for joint, want := range map[int]bool{math.MinInt: false, -2: false, -1: false, 0: true, 1: true, 31: true, 32: true, math.MaxInt: true} {
		for _, paint := range []int{-1, 0, 5} {
			b := scene.Base{Joint: joint, Paint: paint}
			if b.Hangs() != want || (scene.Shape{Base: b}).Hangs() != want {
				t.Errorf("on the joint %d: %v", joint, b.Hangs())
			}
		}
	}
}

// P8.2
func TestCorners(t *testing.T) {
	a, b, c := v(1, 2, 3), v(-4, 5*one, 6), v(7, 8, -9)
	rows := []struct {
		s    scene.Shape
		want []api.Vec
	}{
		{ball(0, 0, a, one), []api.Vec{a}}, {ball(-1, 3, b, 1), []api.Vec{b}}, {face(0, 0, a, b, c), []api.Vec{a, b, c}}, {face(-1, 1, c, a, a), []api.Vec{c, a, a}},
		{scene.Shape{Kind: scene.Ball, A: a, B: b, C: c}, []api.Vec{a}}, {scene.Shape{Kind: 2, A: a, B: b, C: c}, []api.Vec{a, b, c}}, {scene.Shape{Kind: -1, C: c}, []api.Vec{{}, {}, c}},
	}
	for _, r := range rows {
		l := r.s.Corners()
		if !slices.Equal(l, r.want) {
			t.Errorf("Corners of %v = %v, not %v", r.s, l, r.want)
		}
		clear(l[:cap(l)])
		if again := r.s.Corners(); !slices.Equal(again, r.want) {
			t.Errorf("Corners of %v, once more = %v", r.s, again)
		}
	}
}

// isLit tells whether the lamps of a scene are what they must be, and new memory each time.
func isLit(t *testing.T, name string, s scene.Scene, want ...int) {
	t.Helper()
	for range 2 {
		l := s.Lamps()
		if !slices.Equal(l, want) {
			t.Errorf("%s: Lamps() = %v, not %v", name, l, want)
		}
		for i := range l[:cap(l)] {
			l[:cap(l)][i] = -7
		}
	}
}

// P8.2
func TestLamps(t *testing.T) {
	isLit(t, "zero", scene.Scene{})
	isLit(t, "bare", bare())
	isLit(t, "usual", usual(), 2)
	var want []int
	for i := 6; i < 128; i += 8 {
		want = append(want, i)
	}
	isLit(t, "full", full(), want...)
	s := usual()
	for i := range s.Shapes {
		s.Shapes[i].Paint = 3
	}
	isLit(t, "all", s, 0, 1, 2, 3)
	for _, kind := range []int{math.MinInt, -1, scene.Matte, scene.Mirror, scene.Gloss, 4, math.MaxInt} {
		s.Paints[3].Kind = kind
		isLit(t, "of another kind", s)
	}
	s.Paints[0].Kind = scene.Glow
	isLit(t, "the first paint", s)
	s.Shapes[3].Paint, s.Shapes[1].Paint = 0, 0
	isLit(t, "the first paint, twice", s, 1, 3)
}

// P8.2: a shape whose paint there isn't is no lamp; more lamps than may be are told all the same.
func TestLampsOfWrongScenes(t *testing.T) {
	s := usual()
	for i, paint := range []int{-1, 4, math.MaxInt, math.MinInt} {
		s.Shapes[i].Paint = paint
	}
	isLit(t, "no such paints", s)
	s.Shapes[3].Paint = 3
	isLit(t, "one that there is", s, 3)
	s.Paints = nil
	isLit(t, "no paints", s)
	s = usual()
	s.Shapes = slices.Repeat(s.Shapes[2:3], 200)
	if l := s.Lamps(); len(l) != 200 || l[0] != 0 || l[199] != 199 || !slices.IsSorted(l) {
		t.Errorf("of 200: %v", l)
	}
}

// R3: no call changes what it is asked of.
func TestAskedScenesStay(t *testing.T) {
	for _, s := range rightScenes() {
		want := copyOf(s)
		scene.Check(s)
		s.Lamps()
		s.Pixels()
		for _, x := range s.Shapes {
			x.Corners()
		}
		if !reflect.DeepEqual(s, want) {
			t.Errorf("made %v of %v", s, want)
		}
	}
}
