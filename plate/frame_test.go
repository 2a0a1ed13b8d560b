package plate_test

import (
	"testing"

	"zoetrope/api"
	"zoetrope/film"
	"zoetrope/hue"
	"zoetrope/lace"
	"zoetrope/plate"
	"zoetrope/scene"
	"zoetrope/track"
)

// ballScene is a ball under a lamp, ahead of a sky.
func ballScene(sky, lamp hue.Hue) scene.Scene {
	return scene.Scene{
		Header: scene.Header{Width: 16, Height: 12, Samples: 1, Depth: 2, Frames: 1, Seed: 3, Sky: sky},
		Lens:   scene.Lens{Eye: 0, Look: 1, Wide: one},
		Paints: []scene.Paint{{Kind: scene.Matte, Color: h(one, one/2, one/4)}, {Kind: scene.Glow, Color: lamp}},
		Tracks: []track.Track{track.Still(v(0, 0, -4*one)), track.Still(v(0, 0, 0))},
		Shapes: []scene.Shape{{Base: scene.Base{Joint: -1, Paint: 0}, Kind: scene.Ball, Radius: 2 * one}, {Base: scene.Base{Joint: -1, Paint: 1}, Kind: scene.Ball, A: v(0, 9*one, -4*one), Radius: one}},
	}
}

// P21.1: a scene's frame, as it is, and when it is smoothed: pixel by pixel by the chapter's words.
func TestFrame(t *testing.T) {
	f, e := film.Render(ballScene(h(one/8, one/4, one), h(4*one, 4*one, 4*one)), 0)
	smooth, e2 := lace.Smooth(f, f.Sheet)
	if e != api.OK || e2 != api.OK {
		t.Fatalf("%d, %d", e, e2)
	}
	raw, _ := plate.Show(f.Sheet)
	shown, _ := plate.Show(smooth)
	depths, _ := plate.Depths(f)
	normals, _ := plate.Normals(f)
	for i := range f.Pixels() {
		if raw.Dots[i] != hue.Show(f.Light[i]) || shown.Dots[i] != hue.Show(smooth.Light[i]) {
			t.Errorf("the pixel %d: %v, %v", i, raw.Dots[i], shown.Dots[i])
		}
		// The ball is met from 2 on, and no farther than 3.47; the sky has no normal.
		b, n := depths.Dots[i], normals.Dots[i]
		if sky := f.Shape[i] < 0; sky && (b != [3]byte{} || n != [3]byte{128, 128, 128}) || !sky && (b[0] < 57 || b[0] > 85 || n[2] >= 128) {
			t.Errorf("the pixel %d of the shape %d: %v, %v", i, f.Shape[i], b, n)
		}
	}
}

// W6: without sky and lamps the picture is black.
func TestBlack(t *testing.T) {
	f, e := film.Render(ballScene(hue.Hue{}, hue.Hue{}), 0)
	if e != api.OK {
		t.Fatalf("%d", e)
	}
	s, _ := lace.Smooth(f, f.Sheet)
	p, e := plate.Show(s)
	wantDots(t, "Show", p, e, f.Size, make([][3]byte, 192))
}
