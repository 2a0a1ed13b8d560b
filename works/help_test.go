package works_test

import (
	"slices"
	"testing"

	"zoetrope/api"
	"zoetrope/film"
	"zoetrope/hue"
	"zoetrope/scene"
	"zoetrope/track"
	"zoetrope/works"
)

// The calls, with the signatures that the chapter tells.
var (
	_ func(s scene.Scene, kind, frame int, in ...[]byte) ([]byte, api.Errno) = works.Do
	_ func(s scene.Scene) ([][]byte, api.Errno)                              = works.All
	_ func(kind int, s film.Size) int                                        = works.Size
	_ func(s scene.Scene) (many, blocks int)                                 = works.Bound
	_ func(s scene.Scene, blocks int) bool                                   = works.Fits
)

const one = api.One

// v is a point of three numbers, in units; ones is one of whole numbers.
func v(x, y, z api.Fix) api.Vec    { return api.Vec{X: x, Y: y, Z: z} }
func ones(x, y, z api.Fix) api.Vec { return v(x*one, y*one, z*one) }

// h is a light of three kinds, in units.
func h(r, g, b api.Fix) hue.Hue { return hue.Hue{R: r, G: g, B: b} }

// ball and face are shapes on a joint, of a paint.
func ball(joint, paint int, a api.Vec, radius api.Fix) scene.Shape {
	return scene.Shape{Base: scene.Base{Joint: joint, Paint: paint}, Kind: scene.Ball, A: a, Radius: radius}
}

func face(joint, paint int, a, b, c api.Vec) scene.Shape {
	return scene.Shape{Base: scene.Base{Joint: joint, Paint: paint}, Kind: scene.Face, A: a, B: b, C: c}
}

// draw is a list of numbers without any order in them, the same ones in every run.
type draw uint64

// below is the next of them, from 0 on, below n.
func (d *draw) below(n int) int {
	*d = *d*6364136223846793005 + 1442695040888963407
	return int(uint64(*d) >> 32 % uint64(n))
}

// between is the next of them, from one end to the other.
func (d *draw) between(from, to api.Fix) api.Fix { return from + api.Fix(d.below(int(to-from+1))) }

// point is a point of the next of them.
func (d *draw) point(far api.Fix) api.Vec {
	return v(d.between(-far, far), d.between(-far, far), d.between(-far, far))
}

// light is a light of the next of them.
func (d *draw) light(to api.Fix) hue.Hue {
	return h(d.between(0, to), d.between(0, to), d.between(0, to))
}

// track is a track through some points.
func (d *draw) track(far api.Fix) track.Track {
	t := track.Track{Way: d.below(3)}
	for i := range api.Fix(1 + d.below(4)) {
		t.Keys = append(t.Keys, track.Key{Time: i*one + d.between(0, one-1), Value: d.point(far)})
	}
	return t
}

// shape is a shape not far from zero.
func (d *draw) shape(joints, paints int, far api.Fix) scene.Shape {
	on, of, a := d.below(joints+1)-1, d.below(paints), d.point(far)
	if d.below(2) == 0 {
		return ball(on, of, a, d.between(1, far/2))
	}
	return face(on, of, a, d.point(far), d.point(far))
}

// scene is a scene of some shapes that breaks no rule, the last paint glowing.
func (d *draw) scene(shapes, frames int) scene.Scene {
	s := scene.Scene{
		Header: scene.Header{
			Width: 1 + d.below(9), Height: 1 + d.below(9), Samples: 1 + d.below(3), Depth: 1 + d.below(api.MaxDepth), Frames: frames,
			Shutter: d.between(0, one), Seed: uint64(d.below(1<<32)) * 0x9e3779b97f4a7c15, Sky: d.light(one),
		},
		Lens: scene.Lens{Eye: 0, Look: 1, Wide: d.between(one/4, 2*one)},
		Paints: []scene.Paint{
			{Kind: scene.Matte, Color: d.light(one)}, {Kind: scene.Mirror, Color: d.light(one)}, {Kind: scene.Gloss, Color: d.light(one), Rough: d.between(0, one)}, {Kind: scene.Glow, Color: d.light(16 * one)},
		},
		Tracks: []track.Track{d.track(one), d.track(one), d.track(one), d.track(one / 4)},
		Joints: []scene.Joint{{Parent: -1, Move: 2, Turn: 3, Size: d.between(one/2, 2*one)}, {Parent: 0, Move: -1, Turn: 3, Size: one}},
	}
	for i := range s.Tracks[0].Keys {
		s.Tracks[0].Keys[i].Value.Z -= 4 * one
	}
	for range shapes {
		x := d.shape(len(s.Joints), len(s.Paints), 3*one)
		if len(s.Lamps()) == api.MaxLamps {
			x.Paint = 0
		}
		s.Shapes = append(s.Shapes, x)
	}
	return s
}

// drawn are scenes of all kinds.
func drawn(mark int) []scene.Scene {
	d := draw(mark)
	var l []scene.Scene
	for _, shapes := range []int{0, 1, 2, 3, 5, 8, 13, 21, 40, 128} {
		for frames := range 4 {
			l = append(l, d.scene(shapes, 1+frames))
		}
	}
	return l
}

// room is a scene of all kinds of paints, shapes and tracks.
func room() scene.Scene {
	return scene.Scene{
		Header: scene.Header{Width: 9, Height: 7, Samples: 2, Depth: 6, Frames: 3, Shutter: one * 2 / 3, Seed: 0xfedcba9876543210, Sky: h(one/4, one/3, one/2)},
		Lens:   scene.Lens{Eye: 0, Look: 1, Wide: one * 3 / 4},
		Paints: []scene.Paint{
			{Kind: scene.Matte, Color: h(one*3/4, one/2, one/3)}, {Kind: scene.Mirror, Color: h(one*7/8, one, one*3/4)}, {Kind: scene.Gloss, Color: h(one, one*5/6, one/2), Rough: one / 3}, {Kind: scene.Glow, Color: h(9*one, 7*one, 5*one)},
		},
		Tracks: []track.Track{
			{Way: track.Line, Keys: []track.Key{{Value: ones(0, 1, -6)}, {Time: 4 * one, Value: ones(2, 2, -5)}}}, track.Still(ones(0, 0, 0)),
			{Way: track.Ease, Keys: []track.Key{{Value: ones(-2, 0, 0)}, {Time: 3 * one, Value: ones(1, 1, 1)}}}, {Way: track.Line, Keys: []track.Key{{}, {Time: 2 * one, Value: v(one/8, one/5, -one/7)}}},
		},
		Joints: []scene.Joint{{Parent: -1, Move: 2, Turn: 3, Size: one}, {Parent: 0, Move: -1, Turn: 3, Size: one * 5 / 4}},
		Shapes: []scene.Shape{
			face(-1, 0, ones(-8, -2, -8), ones(8, -2, -8), ones(0, -1, 9)), ball(0, 1, ones(1, 0, 0), one*3/2), face(1, 2, ones(1, -1, 1), ones(3, 0, -1), ones(0, 3, 1)), ball(-1, 3, ones(-2, 4, -2), one/2),
			ball(1, 0, ones(2, 1, 0), one*2/3), face(-1, 3, ones(2, 2, 0), ones(4, 1, 2), ones(3, 4, 2)), ball(0, 2, ones(-1, 1, 0), one/3), face(-1, 1, ones(-9, -2, -3), ones(-1, 6, 5), ones(-4, -2, 4)),
		},
	}
}

// size is the size of a scene's pictures.
func size(s scene.Scene) film.Size { return film.Size{Width: s.Width, Height: s.Height} }

// all are all works of a scene, of which there are as many as there must be.
func all(t *testing.T, s scene.Scene) [][]byte {
	t.Helper()
	l, e := works.All(s)
	if e != api.OK || len(l) != 4*s.Frames {
		t.Fatalf("%v: %d works, %d", s, len(l), e)
	}
	return l
}

// needed are the numbers of what a work needs, by the chapter's words.
func needed(kind, frame int) []int {
	f := 4 * frame
	switch kind {
	case 1:
		if frame == 0 {
			return []int{f}
		}
		return []int{f, f - 4, f - 3}
	case 2:
		return []int{f, f + 1}
	case 3:
		return []int{f + 2}
	}
	return nil
}

// handed is what a work of a frame needs, of all works.
func handed(l [][]byte, kind, frame int) [][]byte {
	var in [][]byte
	for _, n := range needed(kind, frame) {
		in = append(in, l[n])
	}
	return in
}

// wantRefused holds a work not to be made, for a reason.
func wantRefused(t *testing.T, what string, want api.Errno, s scene.Scene, kind, frame int, in ...[]byte) {
	t.Helper()
	if b, e := works.Do(s, kind, frame, in...); e != want || len(b) != 0 {
		t.Errorf("%s: the kind %d, the frame %d, of %d others: %d bytes, %d, not %d", what, kind, frame, len(in), len(b), e, want)
	}
}

// wantMade holds a work to be made, just so.
func wantMade(t *testing.T, what string, want []byte, s scene.Scene, kind, frame int, in ...[]byte) {
	t.Helper()
	if b, e := works.Do(s, kind, frame, in...); e != api.OK || !slices.Equal(b, want) {
		t.Errorf("%s: the kind %d, the frame %d: %d bytes, not %d, or others; %d", what, kind, frame, len(b), len(want), e)
	}
}
