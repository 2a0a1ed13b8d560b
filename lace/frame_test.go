package lace_test

import (
	"testing"

	"zoetrope/api"
	"zoetrope/film"
	"zoetrope/hue"
	"zoetrope/lace"
	"zoetrope/scene"
	"zoetrope/track"
)

// P20.1: a scene's frame: of a ball under a lamp, and the sky behind it, which takes nothing of the ball's light.
func TestFrame(t *testing.T) {
	s := scene.Scene{
		Header: scene.Header{Width: 24, Height: 18, Samples: 1, Depth: 3, Frames: 1, Seed: 9, Sky: h(one/8, one/4, one)},
		Lens:   scene.Lens{Eye: 0, Look: 1, Wide: one},
		Paints: []scene.Paint{{Kind: scene.Matte, Color: h(one, one/2, one/4)}, {Kind: scene.Glow, Color: h(4*one, 4*one, 4*one)}},
		Tracks: []track.Track{track.Still(v(0, 0, -4*one)), track.Still(v(0, 0, 0))},
		Shapes: []scene.Shape{{Base: scene.Base{Joint: -1, Paint: 0}, Kind: scene.Ball, Radius: 2 * one}, {Base: scene.Base{Joint: -1, Paint: 1}, Kind: scene.Ball, A: v(0, 9*one, -4*one), Radius: one}},
	}
	f, e := film.Render(s, 0)
	if e != api.OK {
		t.Fatalf("%d", e)
	}
	wantByWords(t, f, f.Sheet)
	got, _ := lace.Smooth(f, f.Sheet)
	seen, changed := 0, 0
	for i, l := range got.Light {
		if f.Shape[i] < 0 {
			if d := hue.Diff(l, s.Sky); d > 15 {
				t.Errorf("the sky at %d is %v", i, l)
			}
			continue
		}
		seen++
		if l != f.Light[i] {
			changed++
		}
	}
	if seen < 20 || changed < seen/2 {
		t.Errorf("of %d pixels of shapes, %d are smoothed", seen, changed)
	}
}
