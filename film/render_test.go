package film_test

import (
	"math"
	"reflect"
	"slices"
	"testing"

	"zoetrope/api"
	"zoetrope/film"
	"zoetrope/hue"
	"zoetrope/path"
	"zoetrope/pose"
	"zoetrope/scene"
	"zoetrope/track"
	"zoetrope/vec"
	"zoetrope/view"
)

// ball and face are shapes on a joint, of a paint.
func ball(joint, paint int, a api.Vec, radius api.Fix) scene.Shape {
	return scene.Shape{Base: scene.Base{Joint: joint, Paint: paint}, Kind: scene.Ball, A: a, Radius: radius}
}

func face(joint, paint int, a, b, c api.Vec) scene.Shape {
	return scene.Shape{Base: scene.Base{Joint: joint, Paint: paint}, Kind: scene.Face, A: a, B: b, C: c}
}

// track is a track through some points.
func (d *draw) track(far api.Fix) track.Track {
	t := track.Track{Way: d.below(3)}
	for i := range api.Fix(1 + d.below(3)) {
		t.Keys = append(t.Keys, track.Key{Time: i*one + d.between(0, one-1), Value: d.point(far)})
	}
	return t
}

// shape is a shape not far from zero.
func (d *draw) shape(joints, paints int, far api.Fix) scene.Shape {
	on, of, a := d.below(joints+1)-1, d.below(paints), d.point(far)
	if d.below(2) == 0 {
		return ball(on, of, a, d.between(1, far/2))
	}
	return face(on, of, a, d.point(far), d.point(far))
}

// scene is a scene of some shapes, the last two paints glowing, that breaks no rule.
func (d *draw) scene(shapes int) scene.Scene {
	s := scene.Scene{
		Header: scene.Header{
			Width: 1 + d.below(7), Height: 1 + d.below(7), Samples: 1 + d.below(3), Depth: 1 + d.below(api.MaxDepth), Frames: 2 + d.below(3),
			Shutter: d.between(0, one), Seed: uint64(d.below(1<<32)) * 0x9e3779b97f4a7c15, Sky: d.light(0, one),
		},
		Lens: scene.Lens{Eye: 0, Look: 1, Wide: d.between(one/4, 2*one)},
		Paints: []scene.Paint{
			{Kind: scene.Matte, Color: d.light(0, one)}, {Kind: scene.Mirror, Color: d.light(0, one)}, {Kind: scene.Gloss, Color: d.light(0, one), Rough: d.between(0, one)}, {Kind: scene.Matte, Color: h(one, one, one)},
			{Kind: scene.Glow, Color: d.light(0, 16*one)}, {Kind: scene.Glow, Color: d.light(0, 4*one)},
		},
		Tracks: []track.Track{d.track(one), d.track(one), d.track(one), d.track(one / 2)},
		Joints: []scene.Joint{{Parent: -1, Move: 2, Turn: 3, Size: d.between(one/2, 2*one)}, {Parent: 0, Move: -1, Turn: 3, Size: one}},
	}
	for i := range s.Tracks[0].Keys {
		s.Tracks[0].Keys[i].Value.Z -= 4 * one
	}
	for i := range shapes {
		x := d.shape(len(s.Joints), len(s.Paints), 3*one)
		if len(s.Lamps()) == api.MaxLamps || i%3 == 1 {
			x.Paint = d.below(4)
		}
		s.Shapes = append(s.Shapes, x)
	}
	return s
}

// rendered is a frame of a scene that breaks no rule, and has it.
func rendered(t *testing.T, s scene.Scene, frame int) film.Film {
	t.Helper()
	f, e := film.Render(s, frame)
	if e != api.OK || !f.Right() || f.Width != s.Width || f.Height != s.Height {
		t.Fatalf("%v, %d: %v, %d", s, frame, f, e)
	}
	return f
}

// flowOf is a pixel's flow, word by word.
func flowOf(s scene.Scene, frame int, set *path.Set, seen path.Seen) int {
	if frame == 0 || seen.Shape == -1 {
		return -1
	}
	was := api.Fix(frame-1) * one
	now, then := set.Placed(seen.Shape, seen.Part).P[0], pose.Shapes(s, was)[seen.Shape].P[0]
	x, y, ok := view.At(s, was).Pixel(vec.Sub(seen.Point, vec.Sub(now, then)))
	if !ok {
		return -1
	}
	return y*s.Width + x
}

// W1, P18.2: of each pixel, row by row, what is seen, and its flow word by word.
func TestRender(t *testing.T) {
	d := draw(8)
	var sky, lost, found, first int
	for i := range 160 {
		s := d.scene([]int{0, 1, 2, 4, 8, 16, 40, 128}[i%8])
		for n := range s.Frames {
			f := rendered(t, s, n)
			set, e := path.Ready(s, n)
			if e != api.OK {
				t.Fatalf("%v: %d", s, e)
			}
			for i := range s.Width * s.Height {
				seen := set.Pixel(i%s.Width, i/s.Width)
				got := path.Seen{Light: f.Light[i], Depth: f.Depth[i], Normal: f.Normal[i], Base: f.Base[i], Shape: f.Shape[i], Point: seen.Point, Part: seen.Part}
				if got != seen {
					t.Fatalf("%v, %d: the pixel %d: %v, not %v", s, n, i, got, seen)
				}
				if want := flowOf(s, n, set, seen); f.Flow[i] != want {
					t.Fatalf("%v, %d: the flow of %v is %d, not %d", s, n, seen, f.Flow[i], want)
				}
				switch {
				case seen.Shape < 0:
					sky++
				case n == 0:
					first++
				case f.Flow[i] < 0:
					lost++
				default:
					found++
				}
			}
		}
	}
	if sky < 1000 || lost < 500 || found < 1000 || first < 500 {
		t.Errorf("the sky %d times, a shape of the first frame %d times, one that wasn't in the picture %d times, one that was %d times", sky, first, lost, found)
	}
}

// room is a scene of all kinds of paints, shapes and tracks, whose flows have been reckoned by another program, too.
func room() scene.Scene {
	turn := track.Track{Way: track.Line, Keys: []track.Key{{}, {Time: 2 * one, Value: v(one/8, one/5, -one/7-1)}}}
	return scene.Scene{
		Header: scene.Header{Width: 6, Height: 5, Samples: 3, Depth: 5, Frames: 3, Shutter: one * 3 / 4, Seed: 0xfedcba9876543210, Sky: h(one/3, one/2, one)},
		Lens:   scene.Lens{Eye: 0, Look: 1, Wide: one * 3 / 4},
		Paints: []scene.Paint{
			{Kind: scene.Matte, Color: h(one*3/4, one/2, one/3)}, {Kind: scene.Mirror, Color: h(one*7/8, one, one*3/4)}, {Kind: scene.Gloss, Color: h(one, one*5/6, one/2), Rough: one / 3},
			{Kind: scene.Glow, Color: h(9*one, 7*one, 5*one)}, {Kind: scene.Glow, Color: h(2*one, 3*one, 4*one)},
		},
		Tracks: []track.Track{
			{Way: track.Line, Keys: []track.Key{{Value: ones(0, 1, -6)}, {Time: 4 * one, Value: ones(2, 2, -5)}}}, track.Still(ones(0, 0, 0)),
			{Way: track.Ease, Keys: []track.Key{{Value: ones(-2, 0, 0)}, {Time: 3 * one, Value: ones(1, 1, 1)}}}, turn,
		},
		Joints: []scene.Joint{{Parent: -1, Move: 2, Turn: 3, Size: one}, {Parent: 0, Move: -1, Turn: 3, Size: one * 5 / 4}},
		Shapes: []scene.Shape{
			face(-1, 0, ones(-8, -2, -8), ones(8, -2, -8), ones(0, -1, 9)), ball(0, 1, ones(1, 0, 0), one*3/2), face(1, 2, ones(1, -1, 1), ones(3, 0, -1), ones(0, 3, 1)), ball(-1, 3, ones(-2, 4, -2), one/2),
			ball(1, 0, ones(2, 1, 0), one*2/3), face(-1, 4, ones(2, 2, 0), ones(4, 1, 2), ones(3, 4, 2)), ball(0, 4, ones(-1, 1, 0), one/3), face(-1, 1, ones(-9, -2, -3), ones(-1, 6, 5), ones(-4, -2, 4)),
		},
	}
}

// P18.2: flows reckoned by another program; the light, the depth and so on of some pixels, too.
func TestRoom(t *testing.T) {
	shapes := [][]int{
		{-1, -1, 7, -1, -1, -1, -1, 7, -1, 4, -1, -1, 7, 7, 1, 0, -1, -1, 0, 0, 0, 0, 0, 0, 0, 0, 0, 0, 0, 0},
		{-1, -1, -1, -1, -1, -1, 7, 4, 4, 1, -1, -1, 2, 2, 1, -1, -1, -1, 0, 0, 0, 0, -1, -1, 0, 0, 0, 0, 0, 0},
		{-1, -1, -1, 2, -1, -1, -1, 7, 4, 1, 1, 5, 7, 7, 7, 1, 1, -1, 0, 0, 0, 0, 0, 0, 0, 0, 0, 0, 0, 0},
	}
	flows := [][]int{
		slices.Repeat([]int{-1}, 30),
		{-1, -1, -1, -1, -1, -1, 6, 9, 9, 14, -1, -1, 7, 14, 13, -1, -1, -1, 18, 19, 20, 21, -1, -1, 24, 25, 26, 28, 22, 23},
		{-1, -1, -1, 3, -1, -1, -1, 7, 15, 8, 15, 10, -1, 13, 13, 21, 15, -1, 18, 19, 20, 21, 22, 23, 24, 26, 26, 27, 28, 29},
	}
	rows := []struct {
		frame, at int
		want      path.Seen
	}{
		{0, 24, path.Seen{Light: h(25365, 25366, 29828), Depth: 299433, Normal: v(0, 98475, -5792), Base: h(49152, 32768, 21845)}},
		{1, 15, path.Seen{Light: h(20024, 24706, 37448), Depth: most}},
		{1, 29, path.Seen{Light: h(38218, 29749, 29960), Depth: 353362, Normal: v(0, 98475, -5792), Base: h(49152, 32768, 21845)}},
		{1, 8, path.Seen{Light: h(19336, 18935, 19154), Depth: 193496, Normal: v(24077, 16429, -58699), Base: h(49152, 32768, 21845)}},
		{2, 21, path.Seen{Light: h(12742, 11009, 10979), Depth: 383730, Normal: v(0, 98475, -5792), Base: h(49152, 32768, 21845)}},
		{2, 0, path.Seen{Light: h(21845, 32768, 65536), Depth: most}},
	}
	var films []film.Film
	for n := range 3 {
		f := rendered(t, room(), n)
		if !slices.Equal(f.Shape, shapes[n]) || !slices.Equal(f.Flow, flows[n]) {
			t.Errorf("the frame %d: the shapes %v, the flows %v", n, f.Shape, f.Flow)
		}
		films = append(films, f)
	}
	for _, r := range rows {
		f := films[r.frame]
		if got := (path.Seen{Light: f.Light[r.at], Depth: f.Depth[r.at], Normal: f.Normal[r.at], Base: f.Base[r.at]}); got != r.want {
			t.Errorf("the frame %d, the pixel %d: %v, not %v", r.frame, r.at, got, r.want)
		}
	}
}

// steady is a track that goes on by so much each frame, and is at a point in one of them.
func steady(at, step api.Vec, frame int) track.Track {
	from := vec.Sub(at, vec.Scale(step, api.Fix(frame)*one))
	return track.Track{Way: track.Line, Keys: []track.Key{{Value: from}, {Time: 32 * one, Value: vec.Add(from, vec.Scale(step, 32*one))}}}
}

// wallScene is a wall all over the picture, six ones ahead of the eye in a frame, where each pixel is two ones wide and high; wall and eye go on by so much each frame.
func wallScene(frame int, wall, eye api.Vec, shutter api.Fix) scene.Scene {
	return scene.Scene{
		Header: scene.Header{Width: 8, Height: 6, Samples: 1, Depth: 1, Frames: 32, Shutter: shutter, Seed: 99},
		Lens:   scene.Lens{Eye: 0, Look: 1, Wide: one},
		Paints: []scene.Paint{{Kind: scene.Glow, Color: h(one, one, one)}},
		Tracks: []track.Track{steady(ones(0, 0, 0), eye, frame), steady(ones(0, 0, 128), eye, frame), steady(ones(0, 0, 6), wall, frame)},
		Joints: []scene.Joint{{Parent: -1, Move: 2, Turn: -1, Size: one}},
		Shapes: []scene.Shape{face(0, 0, ones(-26, -14, 0), ones(26, -14, 0), ones(0, 38, 0))},
	}
}

// P18.2: what goes on by whole pixels was as many pixels aside in the frame ahead.
func TestFlowByPixels(t *testing.T) {
	still := ones(0, 0, 0)
	rows := []struct {
		wall, eye api.Vec
		dx, dy    int
	}{
		{still, still, 0, 0},
		{ones(2, 0, 0), still, -1, 0}, {ones(-2, 0, 0), still, 1, 0}, {ones(-6, 0, 0), still, 3, 0}, {ones(0, 2, 0), still, 0, 1}, {ones(0, -4, 0), still, 0, -2}, {ones(2, -2, 0), still, -1, -1},
		{still, ones(2, 0, 0), 1, 0}, {still, ones(-4, 0, 0), -2, 0}, {still, ones(0, 2, 0), 0, -1}, {still, ones(0, -2, 0), 0, 1},
		{ones(2, 0, 0), ones(2, 0, 0), 0, 0}, {ones(4, 2, -1), ones(4, 2, -1), 0, 0}, {ones(4, 0, 0), ones(2, 0, 0), -1, 0}, {ones(2, 0, 0), ones(0, 2, 0), -1, -1},
		// Beside the picture, and behind the eye.
		{ones(40, 0, 0), still, -20, 0}, {ones(0, 12, 0), still, 0, 6}, {ones(0, -12, 0), still, 0, -6}, {ones(0, 0, 12), still, 99, 0}, {ones(0, 0, 6), still, 99, 0}, {still, ones(0, 0, -6), 99, 0},
	}
	for _, r := range rows {
		for _, n := range []int{0, 1, 2, 5, 31} {
			s := wallScene(n, r.wall, r.eye, 0)
			f := rendered(t, s, n)
			for i := range 48 {
				x, y := i%8+r.dx, i/8+r.dy
				want := -1
				if n > 0 && x >= 0 && x < 8 && y >= 0 && y < 6 {
					want = y*8 + x
				}
				if f.Shape[i] != 0 || f.Flow[i] != want {
					t.Errorf("the wall by %v, the eye by %v, the frame %d, the pixel %d: the flow %d, not %d", r.wall, r.eye, n, i, f.Flow[i], want)
				}
			}
		}
	}
}

// floorOf is a quotient of whole numbers, rounded down.
func floorOf(a, b int64) int {
	q := a / b
	if a%b != 0 && (a < 0) != (b < 0) {
		q--
	}
	return int(q)
}

// thenOf is the pixel of a wall's scene at which a point lay in the frame ahead, by plain whole numbers: a shutter that stays open lets the wall go on till the part, but the frame ahead is seen as its own shutter opened.
func thenOf(p api.Vec, wall, eye api.Vec, shutter, part api.Fix) int {
	then := func(p, wall, eye api.Fix) int64 {
		return int64(p - wall - wall*(shutter*part/one)/one + eye)
	}
	x, y, z := then(p.X, wall.X, eye.X), then(p.Y, wall.Y, eye.Y), then(p.Z, wall.Z, eye.Z)
	if z <= 0 {
		return -1
	}
	col, row := floorOf(6*x+8*z, 2*z), floorOf(6*z-6*y, 2*z)
	if col < 0 || col > 7 || row < 0 || row > 5 {
		return -1
	}
	return row*8 + col
}

// thensOf are the pixels of a point and of those beside it: what lies by an edge may be rounded to either side.
func thensOf(p api.Vec, wall, eye api.Vec, shutter, part api.Fix) []int {
	var l []int
	for i := range api.Fix(9) {
		beside := v(p.X+4*(i%3-1), p.Y+4*(i/3-1), p.Z)
		if n := thenOf(beside, wall, eye, shutter, part); !slices.Contains(l, n) {
			l = append(l, n)
		}
	}
	return l
}

// P18.2: while shutters are open all goes on: the wall's way counts up to the part of each pixel, the view is that as the shutter of the frame ahead opened.
func TestFlowWhileOpen(t *testing.T) {
	still := ones(0, 0, 0)
	rows := []struct{ wall, eye api.Vec }{
		{ones(2, 0, 0), still}, {ones(-3, 1, 0), still}, {ones(0, -2, 0), still}, {ones(0, 0, -3), still}, {ones(0, 0, 2), still}, {ones(1, 2, 3), still},
		{still, ones(3, 0, 0)}, {still, ones(-1, 2, 0)}, {still, ones(0, 0, 2)}, {still, ones(0, 0, -2)}, {ones(4, -2, 1), ones(2, 2, 0)}, {ones(-2, 0, 1), ones(1, -1, -1)},
	}
	all, edges := 0, 0
	for _, r := range rows {
		for _, shutter := range []api.Fix{0, one / 4, one / 2, one} {
			for _, n := range []int{1, 3, 6} {
				s := wallScene(n, r.wall, r.eye, shutter)
				f := rendered(t, s, n)
				set, _ := path.Ready(s, n)
				for i := range 48 {
					seen := set.Pixel(i%8, i/8)
					want := thensOf(seen.Point, r.wall, r.eye, shutter, seen.Part)
					if f.Shape[i] != 0 || !slices.Contains(want, f.Flow[i]) {
						t.Errorf("the wall by %v, the eye by %v, the shutter %d, the frame %d, the pixel %d: the flow %d, not %v", r.wall, r.eye, shutter, n, i, f.Flow[i], want)
					}
					all++
					if len(want) > 1 {
						edges++
					}
				}
			}
		}
	}
	if edges*100 > all {
		t.Errorf("%d of %d points lie by edges", edges, all)
	}
}

// P18.2: it is the first corner that tells where a shape was; a ball's is its middle, however it turns and swells.
func TestFlowByFirstCorner(t *testing.T) {
	s := wallScene(1, ones(0, 0, 0), ones(0, 0, 0), 0)
	s.Tracks = append(s.Tracks, steady(ones(0, 0, 0), v(0, 0, one/4), 0))
	s.Joints[0].Turn = 3
	a, b, c := ones(0, 0, 0), ones(6, 0, 0), ones(0, 5, 0)
	own := func(f film.Film) (same, other, none int) {
		for i, x := range f.Flow {
			switch {
			case f.Shape[i] < 0 && x != -1:
				t.Errorf("the pixel %d sees the sky, its flow is %d", i, x)
			case f.Shape[i] < 0:
				none++
			case x == i:
				same++
			default:
				other++
			}
		}
		return
	}
	turned := func(x ...scene.Shape) film.Film {
		s.Shapes = x
		return rendered(t, s, 1)
	}
	if same, other, none := own(turned(face(0, 0, a, b, c))); same < 3 || other != 0 || none == 0 {
		t.Errorf("about the first corner: %d pixels were where they are, %d weren't, %d see the sky", same, other, none)
	}
	for _, x := range []scene.Shape{face(0, 0, b, c, a), face(0, 0, c, a, b)} {
		if same, other, none := own(turned(x)); same != 0 || other < 3 || none == 0 {
			t.Errorf("about another corner: %d pixels were where they are, %d weren't, %d see the sky", same, other, none)
		}
	}
	if same, other, none := own(turned(ball(0, 0, a, 4*one))); same < 6 || other != 0 || none == 0 {
		t.Errorf("a ball about its middle: %d pixels were where they are, %d weren't, %d see the sky", same, other, none)
	}
	if same, other, none := own(turned(ball(0, 0, ones(3, 0, 0), 2*one))); same != 0 || other < 3 || none == 0 {
		t.Errorf("a ball about another point: %d pixels were where they are, %d weren't, %d see the sky", same, other, none)
	}
}

// P18.2: each pixel goes by its own shape.
func TestFlowByShape(t *testing.T) {
	s := wallScene(2, ones(2, 0, 0), ones(0, 0, 0), 0)
	// The upper half of the picture is seen through by the first wall: a second one stands still there, ahead of it.
	s.Shapes = append(s.Shapes, face(-1, 0, ones(-26, 0, 5), ones(26, 0, 5), ones(0, 30, 5)))
	f := rendered(t, s, 2)
	for i := range 48 {
		shape, want := 1, i
		if i >= 24 {
			shape, want = 0, i-1
			if i%8 == 0 {
				want = -1
			}
		}
		if f.Shape[i] != shape || f.Flow[i] != want {
			t.Errorf("the pixel %d: the shape %d, the flow %d, not %d, %d", i, f.Shape[i], f.Flow[i], shape, want)
		}
	}
}

// W6, P18.2: without sky and lamps all is black.
func TestBlack(t *testing.T) {
	d := draw(9)
	for i := range 24 {
		s := d.scene(i)
		s.Sky, s.Paints = hue.Hue{}, s.Paints[:4]
		for j := range s.Shapes {
			s.Shapes[j].Paint %= 4
		}
		for n := range s.Frames {
			f := rendered(t, s, n)
			if !slices.Equal(f.Light, make([]hue.Hue, f.Pixels())) {
				t.Fatalf("%v, %d: %v", s, n, f.Light)
			}
		}
	}
}

// P18.2: without shapes there is but the sky.
func TestSky(t *testing.T) {
	s := wallScene(0, ones(1, 0, 0), ones(0, 1, 0), one)
	s.Shapes, s.Sky, s.Samples = nil, h(one, 2, 3), 16
	for _, size := range []film.Size{{Width: 1, Height: 1}, {Width: 64, Height: 1}, {Width: 1, Height: 64}, {Width: 5, Height: 3}} {
		s.Width, s.Height = size.Width, size.Height
		n := size.Width * size.Height
		want := film.Film{
			Sheet: film.Sheet{Size: size, Light: slices.Repeat([]hue.Hue{h(one, 2, 3)}, n)}, Depth: slices.Repeat([]api.Fix{most}, n), Normal: make([]api.Vec, n), Base: make([]hue.Hue, n),
			Shape: slices.Repeat([]int{-1}, n), Flow: slices.Repeat([]int{-1}, n),
		}
		for _, frame := range []int{0, 1, 31} {
			if got := rendered(t, s, frame); !reflect.DeepEqual(got, want) {
				t.Errorf("%v, %d: %v", size, frame, got)
			}
		}
	}
}

// P18.2: the error of layer 17: the first broken rule, whatever frame is asked for; else whether there is the frame.
func TestRenderErrors(t *testing.T) {
	rows := []struct {
		want  api.Errno
		spoil func(s *scene.Scene)
	}{
		{api.ErrHeader, func(s *scene.Scene) { *s = scene.Scene{} }},
		{api.ErrHeader, func(s *scene.Scene) { s.Width, s.Height = math.MaxInt, math.MaxInt }},
		{api.ErrHeader, func(s *scene.Scene) { s.Height, s.Paints[0].Kind = 65, 4 }},
		{api.ErrPaint, func(s *scene.Scene) { s.Paints[1].Kind, s.Wide = 4, 0 }},
		{api.ErrTrack, func(s *scene.Scene) { s.Tracks[0].Keys, s.Joints[0].Parent = nil, 7 }},
		{api.ErrJoint, func(s *scene.Scene) { s.Joints[1].Parent, s.Shapes[0].Paint = 1, -1 }},
		{api.ErrShape, func(s *scene.Scene) { s.Shapes[2].Paint = 6 }},
		{api.ErrLens, func(s *scene.Scene) { s.Eye = 4 }},
		{api.ErrLamp, func(s *scene.Scene) { s.Shapes = slices.Repeat([]scene.Shape{ball(-1, 4, ones(0, 0, 0), one)}, 17) }},
	}
	d := draw(10)
	for _, r := range rows {
		s := d.scene(5)
		r.spoil(&s)
		for _, n := range []int{0, 1, -1, 1 << 40} {
			if f, e := film.Render(s, n); e != r.want || !reflect.DeepEqual(f, film.Film{}) {
				t.Errorf("%v, %d: %v, %d, not %d", s, n, f, e, r.want)
			}
		}
	}
	s := d.scene(5)
	for _, n := range []int{math.MinInt, -2, -1, s.Frames, s.Frames + 1, api.MaxFrames, math.MaxInt} {
		if f, e := film.Render(s, n); e != api.ErrArg || !reflect.DeepEqual(f, film.Film{}) {
			t.Errorf("the frame %d of %d: %v, %d", n, s.Frames, f, e)
		}
	}
}

// P18.2, P18.3: frames are laid as any film is: 64 pixels wide and high, of all samples, bounces, shapes, in the last frame that there may be.
func TestLargest(t *testing.T) {
	d := draw(11)
	s := d.scene(api.MaxShapes)
	s.Width, s.Height, s.Samples, s.Depth, s.Frames = api.MaxSide, api.MaxSide, api.MaxSample, api.MaxDepth, api.MaxFrames
	f := rendered(t, s, api.MaxFrames-1)
	b, e := film.Encode(f)
	if e != api.OK || len(b) != 4+54*4096 || len(b) > api.MaxBlob {
		t.Fatalf("%d bytes, %d", len(b), e)
	}
	wantFilm(t, f, filmLaid(f))
	if slices.Max(f.Flow) < 64 {
		t.Errorf("the flows are %v", f.Flow)
	}
}

// copyOf is a scene that shares no memory with another one that is like it.
func copyOf(s scene.Scene) scene.Scene {
	s.Paints, s.Joints, s.Shapes = slices.Clone(s.Paints), slices.Clone(s.Joints), slices.Clone(s.Shapes)
	s.Tracks = slices.Clone(s.Tracks)
	for i := range s.Tracks {
		s.Tracks[i].Keys = slices.Clone(s.Tracks[i].Keys)
	}
	return s
}

// R3, R5: the scene stays as it is; the same frame is the same film, in whichever order it comes; no answers and no lists of one share memory.
func TestRenderAgain(t *testing.T) {
	d := draw(12)
	for i := range 12 {
		s := d.scene(4 * i)
		kept := copyOf(s)
		var films []film.Film
		for n := range s.Frames {
			films = append(films, rendered(t, s, n))
		}
		for n := s.Frames - 1; n >= 0; n-- {
			f := rendered(t, s, n)
			if !reflect.DeepEqual(f, films[n]) {
				t.Fatalf("%v, %d: %v, then %v", s, n, films[n], f)
			}
			spoilt(t, f)
		}
		for n := range s.Frames {
			if !reflect.DeepEqual(films[n], rendered(t, kept, n)) {
				t.Fatalf("the frame %d has changed", n)
			}
		}
		if !reflect.DeepEqual(s, kept) {
			t.Fatalf("the scene is now %v", s)
		}
	}
}
