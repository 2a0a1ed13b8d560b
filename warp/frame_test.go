package warp_test

import (
	"testing"

	"zoetrope/api"
	"zoetrope/film"
	"zoetrope/scene"
	"zoetrope/track"
	"zoetrope/warp"
)

// ballScene is a ball that goes to the right by half of One from frame to frame, before an eye that stands still.
func ballScene() scene.Scene {
	line, _ := track.Make(track.Line, track.Key{}, track.Key{Time: 8 * one, Value: v(4*one, 0, 0)})
	return scene.Scene{
		Header: scene.Header{Width: 32, Height: 24, Samples: 2, Depth: 2, Frames: 8, Seed: 3, Sky: h(one, one/2, one/4)},
		Lens:   scene.Lens{Eye: 0, Look: 1, Wide: one},
		Paints: []scene.Paint{{Kind: scene.Matte, Color: h(one, one/2, one/4)}},
		Tracks: []track.Track{track.Still(v(0, 0, -4*one)), track.Still(v(0, 0, 0)), line},
		Joints: []scene.Joint{{Parent: -1, Move: 2, Turn: -1, Size: one}},
		Shapes: []scene.Shape{{Base: scene.Base{Joint: 0, Paint: 0}, Kind: scene.Ball, Radius: one}},
	}
}

// P19.1, P19.2: a scene's frames, each mixed with what the one ahead came to; the first one has no past.
func TestFrames(t *testing.T) {
	s := ballScene()
	was, e := film.Render(s, 0)
	if e != api.OK {
		t.Fatalf("%d", e)
	}
	if n := warp.Kept(was, was); n != 0 {
		t.Errorf("the first frame: %d pixels have a past", n)
	}
	light, _ := warp.Alone(was)
	for n := 1; n < s.Frames; n++ {
		now, _ := film.Render(s, n)
		if many := wantBlend(t, now, was, light); many < 16 {
			t.Errorf("the frame %d: %d pixels have a past", n, many)
		}
		light, _ = warp.Blend(now, was, light)
		was = now
	}
}
