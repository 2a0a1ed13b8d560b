package pose_test

import (
	"math"
	"reflect"
	"slices"
	"testing"

	"zoetrope/api"
	"zoetrope/fix"
	"zoetrope/hue"
	"zoetrope/pose"
	"zoetrope/scene"
	"zoetrope/track"
	"zoetrope/vec"
	"zoetrope/wave"
)

// The calls, with the signatures that the chapter tells.
var (
	_ func(scene.Scene, api.Fix) []pose.Spot   = pose.Joints
	_ func(scene.Scene, api.Fix) []pose.Placed = pose.Shapes
	_ func(pose.Moving, api.Fix) pose.Placed   = pose.Moving.At
	_ func(scene.Scene, int) []pose.Moving     = pose.Frame
	_ func(scene.Scene, api.Fix) api.Vec       = pose.Eye
	_ func(scene.Scene, api.Fix) api.Vec       = pose.Look
	_ func(pose.Spot, api.Vec) api.Vec         = pose.Spot.Dir
	_ func(pose.Spot, api.Vec) api.Vec         = pose.Spot.Point
	_ func(pose.Spot, vec.Mat) vec.Mat         = pose.Spot.Times
	_ struct{ A, B pose.Placed }               = pose.Moving{}
	_ struct {
		vec.Mat
		Size api.Fix
	} = pose.Spot{}
	_ struct {
		Kind, Paint int
		P           [3]api.Vec
		Radius      api.Fix
	} = pose.Placed{}
)

const (
	one  = api.One
	most = api.Most
)

// v is a point of three numbers, in units.
func v(x, y, z api.Fix) api.Vec { return api.Vec{X: x, Y: y, Z: z} }

// ones is a point of three whole numbers.
func ones(x, y, z api.Fix) api.Vec { return v(x*one, y*one, z*one) }

// spot is a joint's place: where the axes go, where zero goes, how much is stretched.
func spot(x, y, z, t api.Vec, size api.Fix) pose.Spot {
	return pose.Spot{Mat: vec.Mat{X: x, Y: y, Z: z, T: t}, Size: size}
}

// placedBall and placedFace are shapes in the world.
func placedBall(paint int, middle api.Vec, radius api.Fix) pose.Placed {
	return pose.Placed{Kind: scene.Ball, Paint: paint, P: [3]api.Vec{middle}, Radius: radius}
}

func placedFace(paint int, a, b, c api.Vec) pose.Placed {
	return pose.Placed{Kind: scene.Face, Paint: paint, P: [3]api.Vec{a, b, c}}
}

// ball and face are shapes of a scene.
func ball(joint, paint int, a api.Vec, radius api.Fix) scene.Shape {
	return scene.Shape{Base: scene.Base{Joint: joint, Paint: paint}, Kind: scene.Ball, A: a, Radius: radius}
}

func face(joint, paint int, a, b, c api.Vec) scene.Shape {
	return scene.Shape{Base: scene.Base{Joint: joint, Paint: paint}, Kind: scene.Face, A: a, B: b, C: c}
}

// usual is a scene of three paints, four tracks, five joints, six shapes.
func usual() scene.Scene {
	return scene.Scene{
		Header: scene.Header{Width: 3, Height: 2, Samples: 1, Depth: 1, Frames: 4, Shutter: one / 2},
		Lens:   scene.Lens{Eye: 1, Look: 3, Wide: one},
		Paints: []scene.Paint{{}, {Kind: scene.Mirror, Color: hue.Gray(one)}, {Kind: scene.Glow, Color: hue.Gray(one)}},
		Tracks: []track.Track{
			track.Still(ones(0, 5, 0)),
			{Way: track.Line, Keys: []track.Key{{}, {Time: 4 * one, Value: ones(4, -2, 1)}}},
			{Way: track.Ease, Keys: []track.Key{{Time: one}, {Time: 3 * one, Value: v(one/4, one/8, one/2)}}},
			{Way: track.Step, Keys: []track.Key{{Value: ones(1, 2, 3)}, {Time: 2 * one, Value: v(-7*one, one/2, 2*one)}}},
		},
		Joints: []scene.Joint{
			{Parent: -1, Move: 1, Turn: 2, Size: one * 3 / 2}, {Parent: 0, Move: 3, Turn: -1, Size: one / 2}, {Parent: -1, Move: -1, Turn: 2, Size: 3 * one},
			{Parent: 1, Move: 0, Turn: 2, Size: 2*one + 1}, {Parent: 2, Move: -1, Turn: -1, Size: one / 3},
		},
		Shapes: []scene.Shape{
			ball(3, 0, v(one, -2*one, one/2), one), face(1, 1, ones(1, 0, 0), ones(0, 1, 0), ones(0, 0, -1)), ball(-1, 2, v(7, -8, 9), one/3),
			face(-1, 0, v(1, 2, 3), v(4, 5, 6), v(-7, -8, -9)), ball(4, 1, ones(0, 0, 4), one*5/4), ball(0, 0, v(1, -1, 3), 3),
		},
	}
}

// moment is where all of the usual scene is at a time, reckoned by another program.
type moment struct {
	time      api.Fix
	joints    []pose.Spot
	shapes    []pose.Placed
	eye, look api.Vec
}

func moments() []moment {
	return []moment{
		{0, []pose.Spot{
			spot(v(98304, 0, 0), v(0, 98304, 0), v(0, 0, 98304), v(0, 0, 0), 98304),
			spot(v(49152, 0, 0), v(0, 49152, 0), v(0, 0, 49152), v(98304, 196608, 294912), 49152),
			spot(v(196608, 0, 0), v(0, 196608, 0), v(0, 0, 196608), v(0, 0, 0), 196608),
			spot(v(98304, 0, 0), v(0, 98304, 0), v(0, 0, 98304), v(98304, 442368, 294912), 98304),
			spot(v(65535, 0, 0), v(0, 65535, 0), v(0, 0, 65535), v(0, 0, 0), 65535),
		}, []pose.Placed{
			placedBall(0, v(196608, 245760, 344064), 98304),
			placedFace(1, v(147456, 196608, 294912), v(98304, 245760, 294912), v(98304, 196608, 245760)),
			placedBall(2, v(7, -8, 9), 21845),
			placedFace(0, v(1, 2, 3), v(4, 5, 6), v(-7, -8, -9)),
			placedBall(1, v(0, 0, 262140), 81918),
			placedBall(0, v(1, -2, 4), 4),
		}, v(0, 0, 0), v(65536, 131072, 196608)},
		{one + one/2, []pose.Spot{
			spot(v(85927, 47574, 939), v(-46008, 82557, 26742), v(12172, -23858, 94594), v(98304, -49152, 24576), 98304),
			spot(v(42963, 23787, 469), v(-23004, 41278, 13371), v(6086, -11929, 47297), v(128731, 91962, 362781), 49152),
			spot(v(171855, 95148, 1878), v(-92016, 165114, 53484), v(24345, -47715, 189189), v(0, 0, 0), 196608),
			spot(v(52957, 81308, 14663), v(-75544, 40574, 47750), v(33517, -37105, 84649), v(13711, 298352, 429636), 98304),
			spot(v(57284, 31715, 625), v(-30672, 55037, 17827), v(8114, -15905, 63062), v(0, 0, 0), 65535),
		}, []pose.Placed{
			placedBall(0, v(234514, 279959, 391123), 98304),
			placedFace(1, v(171694, 115749, 363250), v(105727, 133240, 376152), v(122645, 103891, 315484)),
			placedBall(2, v(7, -8, 9), 21845),
			placedFace(0, v(1, 2, 3), v(4, 5, 6), v(-7, -8, -9)),
			placedBall(1, v(32456, -63620, 252248), 81918),
			placedBall(0, v(98305, -49156, 24579), 4),
		}, v(98304, -49152, 24576), v(65536, 131072, 196608)},
		{3*one + 1, []pose.Spot{
			spot(v(-69390, -69390, 0), v(0, 0, -98304), v(69390, -69390, 0), v(196608, -98304, 49152), 98304),
			spot(v(-34695, -34695, 0), v(0, 0, -49152), v(34695, -34695, 0), v(821118, 248646, 0), 49152),
			spot(v(-138780, -138780, 0), v(0, 0, -196608), v(138780, -138780, 0), v(0, 0, 0), 196608),
			spot(v(48980, 48980, 69390), v(-69391, 69390, 0), v(-48981, -48981, 69390), v(821118, 248646, -245760), 98304),
			spot(v(-46260, -46260, 0), v(0, 0, -65535), v(46259, -46260, 0), v(0, 0, 0), 65535),
		}, []pose.Placed{
			placedBall(0, v(984389, 134355, -141675), 98304),
			placedFace(1, v(786423, 213951, 0), v(821118, 248646, -49152), v(786423, 283341, 0)),
			placedBall(2, v(7, -8, 9), 21845),
			placedFace(0, v(1, 2, 3), v(4, 5, 6), v(-7, -8, -9)),
			placedBall(1, v(185036, -185040, 0), 81918),
			placedBall(0, v(196609, -98310, 49153), 4),
		}, v(196608, -98304, 49152), v(-458752, 32768, 131072)},
	}
}

// draw is a list of numbers without any order in them, the same ones in every run.
type draw uint64

// below is the next of them, from 0 on, below n.
func (d *draw) below(n int) int {
	*d = *d*6364136223846793005 + 1442695040888963407
	return int(uint64(*d) >> 33 % uint64(n))
}

// between is the next of them, from one end to the other.
func (d *draw) between(from, to api.Fix) api.Fix { return from + api.Fix(d.below(int(to-from+1))) }

// point is a point of the next of them.
func (d *draw) point(far api.Fix) api.Vec {
	return v(d.between(-far, far), d.between(-far, far), d.between(-far, far))
}

// drawn is a scene that breaks no rule, but has no order; its joints stretch up to so much, its tracks go so far.
func drawn(d *draw, size, far api.Fix) scene.Scene {
	s := scene.Scene{
		Header: scene.Header{Width: 1, Height: 1, Samples: 1, Depth: 1, Frames: 1 + d.below(32), Shutter: d.between(0, one)},
		Paints: make([]scene.Paint, 3),
	}
	for range 1 + d.below(5) {
		t := track.Track{Way: d.below(3)}
		for i := range api.Fix(1 + d.below(4)) {
			t.Keys = append(t.Keys, track.Key{Time: 8*i*one + d.between(0, 7*one), Value: d.point(far)})
		}
		s.Tracks = append(s.Tracks, t)
	}
	many := len(s.Tracks)
	s.Lens = scene.Lens{Eye: d.below(many), Look: d.below(many), Wide: one}
	for i := range d.below(33) {
		s.Joints = append(s.Joints, scene.Joint{Parent: d.below(i+1) - 1, Move: d.below(many+1) - 1, Turn: d.below(many+1) - 1, Size: d.between(1, size)})
	}
	for range d.below(20) {
		joint, paint := d.below(len(s.Joints)+1)-1, d.below(3)
		if d.below(2) == 0 {
			s.Shapes = append(s.Shapes, ball(joint, paint, d.point(256*one), d.between(1, 64*one)))
		} else {
			s.Shapes = append(s.Shapes, face(joint, paint, d.point(256*one), d.point(256*one), d.point(256*one)))
		}
	}
	return s
}

// scenes are scenes that break no rule: those by hand, and drawn ones, in some of which numbers are held.
func scenes(t *testing.T) []scene.Scene {
	t.Helper()
	l := []scene.Scene{usual(), deep(), {Header: usual().Header, Lens: scene.Lens{Wide: one}, Tracks: []track.Track{track.Still(ones(1, 2, 3))}}}
	d := draw(1)
	for i := range 60 {
		size, far := []api.Fix{2 * one, 64 * one, one / 16}[i%3], []api.Fix{one, 300 * one, most}[i/3%3]
		l = append(l, drawn(&d, size, far))
	}
	for _, s := range l {
		if e, at := scene.Check(s); e != api.OK {
			t.Fatalf("the test's scene breaks a rule: %d at %d", e, at)
		}
	}
	return l
}

// deep is a scene whose joints stand one on the other, each twice as great as its parent, so that far up they are held.
func deep() scene.Scene {
	s := scene.Scene{
		Header: scene.Header{Width: 1, Height: 1, Samples: 1, Depth: 1, Frames: 2}, Lens: scene.Lens{Wide: one},
		Paints: []scene.Paint{{}}, Tracks: []track.Track{track.Still(ones(1, 0, 0))},
	}
	for i := range 32 {
		s.Joints = append(s.Joints, scene.Joint{Parent: i - 1, Move: 0, Turn: -1, Size: 2 * one})
		s.Shapes = append(s.Shapes, ball(i, 0, ones(1, -1, 0), one))
	}
	return s
}

// times are times ahead of all, at keys, between them, and behind all.
func times() []api.Fix {
	return []api.Fix{math.MinInt64, -1, 0, 1, one - 1, one, 2 * one, 3*one + 7, 9 * one, 17*one + one/3, 31 * one, 33 * one, math.MaxInt64}
}

// valueOf is a track's value.
func valueOf(s scene.Scene, number int, time api.Fix) api.Vec {
	if number == -1 {
		return v(0, 0, 0)
	}
	return s.Tracks[number].At(time)
}

// spotOf is where one joint is: told from the joint down to where it stands.
func spotOf(s scene.Scene, number int, time api.Fix) pose.Spot {
	if number == -1 {
		return spot(v(one, 0, 0), v(0, one, 0), v(0, 0, one), v(0, 0, 0), one)
	}
	j := s.Joints[number]
	below := spotOf(s, j.Parent, time)
	own := vec.Same().Times(vec.Move(valueOf(s, j.Move, time))).Times(wave.Turns(valueOf(s, j.Turn, time))).Times(vec.Size(j.Size))
	return pose.Spot{Mat: below.Mat.Times(own), Size: fix.Mul(below.Size, j.Size)}
}

// placedOf is one shape in the world.
func placedOf(s scene.Scene, number int, time api.Fix) pose.Placed {
	x := s.Shapes[number]
	on := spotOf(s, x.Joint, time)
	if x.Kind == scene.Ball {
		return placedBall(x.Paint, on.Mat.Point(x.A), fix.Mul(x.Radius, on.Size))
	}
	return placedFace(x.Paint, on.Mat.Point(x.A), on.Mat.Point(x.B), on.Mat.Point(x.C))
}

// P10.1
func TestAgainstMoments(t *testing.T) {
	s := usual()
	for _, m := range moments() {
		joints, shapes := pose.Joints(s, m.time), pose.Shapes(s, m.time)
		if len(joints) != len(m.joints) || len(shapes) != len(m.shapes) {
			t.Fatalf("at %d: %d joints, %d shapes", m.time, len(joints), len(shapes))
		}
		for i, want := range m.joints {
			if joints[i] != want {
				t.Errorf("at %d the joint %d is %v, not %v", m.time, i, joints[i], want)
			}
		}
		for i, want := range m.shapes {
			if shapes[i] != want {
				t.Errorf("at %d the shape %d is %v, not %v", m.time, i, shapes[i], want)
			}
		}
		if eye, look := pose.Eye(s, m.time), pose.Look(s, m.time); eye != m.eye || look != m.look {
			t.Errorf("at %d: from %v to %v", m.time, eye, look)
		}
	}
}

// P10.1: all scenes, joint by joint and shape by shape.
func TestByDefinition(t *testing.T) {
	for n, s := range scenes(t) {
		for _, time := range times() {
			joints, shapes := pose.Joints(s, time), pose.Shapes(s, time)
			if len(joints) != len(s.Joints) || len(shapes) != len(s.Shapes) {
				t.Fatalf("scene %d: %d joints, %d shapes", n, len(joints), len(shapes))
			}
			for i := range joints {
				if want := spotOf(s, i, time); joints[i] != want {
					t.Fatalf("scene %d, at %d: the joint %d is %v, not %v", n, time, i, joints[i], want)
				}
			}
			for i := range shapes {
				if want := placedOf(s, i, time); shapes[i] != want {
					t.Fatalf("scene %d, at %d: the shape %d is %v, not %v", n, time, i, shapes[i], want)
				}
			}
			if pose.Eye(s, time) != valueOf(s, s.Eye, time) || pose.Look(s, time) != valueOf(s, s.Look, time) {
				t.Fatalf("scene %d, at %d: from %v to %v", n, time, pose.Eye(s, time), pose.Look(s, time))
			}
		}
	}
}

// P10.1: the chapter's example.
func TestExample(t *testing.T) {
	s := scene.Scene{
		Tracks: []track.Track{track.Still(ones(0, 5, 0))},
		Joints: []scene.Joint{{Parent: -1, Move: 0, Turn: -1, Size: 2 * one}},
		Shapes: []scene.Shape{ball(0, 0, ones(1, 0, 0), one)},
	}
	if l := pose.Shapes(s, 0); len(l) != 1 || l[0] != placedBall(0, ones(2, 5, 0), 2*one) {
		t.Errorf("it is %v", l)
	}
}

// P10.1: a joint stretches first, then turns, then moves, and its parent does what it does behind that.
func TestOrder(t *testing.T) {
	quarter := track.Still(v(0, 0, one/4))
	s := scene.Scene{
		Tracks: []track.Track{track.Still(ones(10, 0, 0)), quarter},
		Joints: []scene.Joint{{Parent: -1, Move: 0, Turn: 1, Size: 2 * one}, {Parent: 0, Move: 0, Turn: 1, Size: 3 * one}},
		Shapes: []scene.Shape{ball(0, 0, ones(1, 0, 0), one), ball(1, 0, ones(1, 0, 0), one)},
	}
	l := pose.Shapes(s, 0)
	if len(l) != 2 || l[0] != placedBall(0, ones(10, 2, 0), 2*one) || l[1] != placedBall(0, ones(4, 20, 0), 6*one) {
		t.Errorf("they are %v", l)
	}
}

// P10.1: sizes are products, rounded down and held.
func TestSizes(t *testing.T) {
	l, m := pose.Joints(deep(), 0), pose.Shapes(deep(), 0)
	for i := range l {
		want := min(one<<(i+1), most)
		if l[i].Size != want || m[i].Radius != want {
			t.Errorf("joint %d: %d, and the ball there %d, not %d", i, l[i].Size, m[i].Radius, want)
		}
	}
	s := deep()
	for i := range s.Joints {
		s.Joints[i].Size = one / 256
	}
	l, m = pose.Joints(s, 0), pose.Shapes(s, 0)
	for i, want := range []api.Fix{256, 1, 0, 0} {
		if l[i].Size != want || m[i].Radius != want || l[i].X.X != want {
			t.Errorf("joint %d: %d, and the ball there %d, not %d", i, l[i].Size, m[i].Radius, want)
		}
	}
}

// P10.1, R4
func TestNothingThere(t *testing.T) {
	for _, time := range times() {
		if l, m := pose.Joints(scene.Scene{}, time), pose.Shapes(scene.Scene{}, time); len(l) != 0 || len(m) != 0 {
			t.Errorf("at %d: %v, %v", time, l, m)
		}
		s := usual()
		s.Joints, s.Shapes = nil, s.Shapes[2:4]
		if l := pose.Shapes(s, time); len(l) != 2 || l[0] != placedBall(2, v(7, -8, 9), one/3) || l[1] != placedFace(0, v(1, 2, 3), v(4, 5, 6), v(-7, -8, -9)) {
			t.Errorf("at %d, on no joints: %v", time, l)
		}
	}
}

// copyOf is a scene that shares no memory with another one that is like it.
func copyOf(s scene.Scene) scene.Scene {
	s.Paints, s.Joints, s.Shapes = slices.Clone(s.Paints), slices.Clone(s.Joints), slices.Clone(s.Shapes)
	s.Tracks = slices.Clone(s.Tracks)
	for i := range s.Tracks {
		s.Tracks[i].Keys = slices.Clone(s.Tracks[i].Keys)
	}
	return s
}

// R3, R5: what is asked stays as it is; what is told is new memory, and the same again.
func TestNothingIsShared(t *testing.T) {
	s := usual()
	kept := copyOf(s)
	for range 2 {
		joints, shapes, frame := pose.Joints(s, one), pose.Shapes(s, one), pose.Frame(s, 1)
		for i := range joints {
			if joints[i] != spotOf(s, i, one) {
				t.Errorf("the joint %d is %v", i, joints[i])
			}
		}
		for i := range shapes {
			if shapes[i] != placedOf(s, i, one) || frame[i].A != shapes[i] || frame[i].B != placedOf(s, i, one+one/2) {
				t.Errorf("the shape %d is %v, moves by %v", i, shapes[i], frame[i])
			}
		}
		if !reflect.DeepEqual(s, kept) {
			t.Fatalf("the scene is now %v", s)
		}
		clear(joints[:cap(joints)])
		clear(shapes[:cap(shapes)])
		clear(frame[:cap(frame)])
	}
}

// wild are numbers of things that there may not be.
func wild() []int { return []int{math.MinInt, -2, -1, 0, 1, 2, 5, 6, 200, math.MaxInt} }

// R1: of scenes that break rules nothing is told, but the calls end.
func TestWildScenes(t *testing.T) {
	for _, a := range wild() {
		for _, b := range wild() {
			far := api.Fix(b)
			s := usual()
			s.Header = scene.Header{Width: a, Height: b, Frames: a, Shutter: far}
			s.Lens = scene.Lens{Eye: a, Look: b}
			s.Tracks = append(s.Tracks, track.Track{Way: a}, track.Track{Way: b, Keys: []track.Key{{Time: far, Value: v(far, far, far)}, {}}})
			s.Joints = append(s.Joints, scene.Joint{Parent: a, Move: b, Turn: a, Size: far}, scene.Joint{Parent: 5, Move: a, Turn: b, Size: api.Fix(a)})
			s.Shapes = append(s.Shapes, ball(a, b, v(far, -far, far), far), face(b, a, v(far, 0, 0), v(0, far, 0), v(0, 0, far)), scene.Shape{Base: scene.Base{Joint: b}, Kind: a, Radius: far})
			for _, time := range append(times(), far) {
				if len(pose.Joints(s, time)) != 7 || len(pose.Shapes(s, time)) != 9 {
					t.Errorf("%v: %v, %v", s, pose.Joints(s, time), pose.Shapes(s, time))
				}
				pose.Eye(s, time)
				pose.Look(s, time)
			}
			pose.Frame(s, b)
			pose.Frame(s, a-1)
		}
	}
}
