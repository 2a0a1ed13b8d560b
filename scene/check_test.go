package scene_test

import (
	"math"
	"slices"
	"testing"

	"zoetrope/api"
	"zoetrope/hue"
	"zoetrope/scene"
	"zoetrope/track"
)

// isChecked tells whether Check answers what it must.
func isChecked(t *testing.T, name string, s scene.Scene, want api.Errno, where int) {
	t.Helper()
	if e, n := scene.Check(s); e != want || n != where {
		t.Errorf("%s: Check = %d, %d, not %d, %d", name, e, n, want, where)
	}
}

// field is a number of the usual scene, the least and the greatest one that it may be, and what is broken if it isn't.
type field[N int | api.Fix] struct {
	name            string
	of              func(s *scene.Scene) *N
	least, greatest N
	err             api.Errno
	where           int
}

// isBounded tells whether a number may be just what it may be.
func (f field[N]) isBounded(t *testing.T, lowest, highest N) {
	t.Helper()
	for _, n := range []N{f.least, f.greatest, f.least + (f.greatest-f.least)/2} {
		s := usual()
		*f.of(&s) = n
		isChecked(t, f.name, s, api.OK, 0)
	}
	for _, n := range []N{f.least - 1, f.greatest + 1, f.least - 2, f.greatest + 2, lowest, highest} {
		s := usual()
		*f.of(&s) = n
		isChecked(t, f.name+", beyond", s, f.err, f.where)
	}
}

// wholes are the usual scene's whole numbers that have bounds.
func wholes() []field[int] {
	return []field[int]{
		{"Width", func(s *scene.Scene) *int { return &s.Width }, 1, 64, api.ErrHeader, 0},
		{"Height", func(s *scene.Scene) *int { return &s.Height }, 1, 64, api.ErrHeader, 0},
		{"Samples", func(s *scene.Scene) *int { return &s.Samples }, 1, 16, api.ErrHeader, 0},
		{"Depth", func(s *scene.Scene) *int { return &s.Depth }, 1, 6, api.ErrHeader, 0},
		{"Frames", func(s *scene.Scene) *int { return &s.Frames }, 1, 32, api.ErrHeader, 0},
		{"a paint's Kind", func(s *scene.Scene) *int { return &s.Paints[2].Kind }, 0, 3, api.ErrPaint, 2},
		{"a track's Way", func(s *scene.Scene) *int { return &s.Tracks[1].Way }, 0, 2, api.ErrTrack, 1},
		{"the first joint's Parent", func(s *scene.Scene) *int { return &s.Joints[0].Parent }, -1, -1, api.ErrJoint, 0},
		{"the next joint's Parent", func(s *scene.Scene) *int { return &s.Joints[1].Parent }, -1, 0, api.ErrJoint, 1},
		{"the last joint's Parent", func(s *scene.Scene) *int { return &s.Joints[2].Parent }, -1, 1, api.ErrJoint, 2},
		{"a joint's Move", func(s *scene.Scene) *int { return &s.Joints[1].Move }, -1, 2, api.ErrJoint, 1},
		{"a joint's Turn", func(s *scene.Scene) *int { return &s.Joints[2].Turn }, -1, 2, api.ErrJoint, 2},
		{"a ball's Joint", func(s *scene.Scene) *int { return &s.Shapes[0].Joint }, -1, 2, api.ErrShape, 0},
		{"a ball's Paint", func(s *scene.Scene) *int { return &s.Shapes[2].Paint }, 0, 3, api.ErrShape, 2},
		{"a face's Joint", func(s *scene.Scene) *int { return &s.Shapes[3].Joint }, -1, 2, api.ErrShape, 3},
		{"a face's Paint", func(s *scene.Scene) *int { return &s.Shapes[1].Paint }, 0, 3, api.ErrShape, 1},
		{"Eye", func(s *scene.Scene) *int { return &s.Eye }, 0, 2, api.ErrLens, 0},
		{"Look", func(s *scene.Scene) *int { return &s.Look }, 0, 2, api.ErrLens, 0},
	}
}

// lights are the fields of a light.
func lights(name string, of func(s *scene.Scene) *hue.Hue, e api.Errno, where int) []field[api.Fix] {
	return []field[api.Fix]{
		{name + "'s R", func(s *scene.Scene) *api.Fix { return &of(s).R }, 0, 16 * one, e, where},
		{name + "'s G", func(s *scene.Scene) *api.Fix { return &of(s).G }, 0, 16 * one, e, where},
		{name + "'s B", func(s *scene.Scene) *api.Fix { return &of(s).B }, 0, 16 * one, e, where},
	}
}

// points are the fields of a point, whose numbers' amounts may be so great.
func points(name string, of func(s *scene.Scene) *api.Vec, most api.Fix, e api.Errno, where int) []field[api.Fix] {
	return []field[api.Fix]{
		{name + "'s X", func(s *scene.Scene) *api.Fix { return &of(s).X }, -most, most, e, where},
		{name + "'s Y", func(s *scene.Scene) *api.Fix { return &of(s).Y }, -most, most, e, where},
		{name + "'s Z", func(s *scene.Scene) *api.Fix { return &of(s).Z }, -most, most, e, where},
	}
}

// fixes are the usual scene's numbers of layer 1 that have bounds.
func fixes() []field[api.Fix] {
	return slices.Concat(
		[]field[api.Fix]{
			{"Shutter", func(s *scene.Scene) *api.Fix { return &s.Shutter }, 0, one, api.ErrHeader, 0},
			{"Rough", func(s *scene.Scene) *api.Fix { return &s.Paints[2].Rough }, 0, one, api.ErrPaint, 2},
			{"the Rough of what isn't rough", func(s *scene.Scene) *api.Fix { return &s.Paints[0].Rough }, 0, one, api.ErrPaint, 0},
			{"a key's Time", func(s *scene.Scene) *api.Fix { return &s.Tracks[2].Keys[0].Time }, 0, 32 * one, api.ErrTrack, 2},
			{"a joint's Size", func(s *scene.Scene) *api.Fix { return &s.Joints[1].Size }, 1, 64 * one, api.ErrJoint, 1},
			{"a ball's Radius", func(s *scene.Scene) *api.Fix { return &s.Shapes[0].Radius }, 1, 64 * one, api.ErrShape, 0},
			{"a face's Radius", func(s *scene.Scene) *api.Fix { return &s.Shapes[1].Radius }, 0, 0, api.ErrShape, 1},
			{"Wide", func(s *scene.Scene) *api.Fix { return &s.Wide }, 1, 8 * one, api.ErrLens, 0},
		},
		lights("Sky", func(s *scene.Scene) *hue.Hue { return &s.Sky }, api.ErrHeader, 0),
		lights("the first Color", func(s *scene.Scene) *hue.Hue { return &s.Paints[0].Color }, api.ErrPaint, 0),
		lights("the last Color", func(s *scene.Scene) *hue.Hue { return &s.Paints[3].Color }, api.ErrPaint, 3),
		points("a key's Value", func(s *scene.Scene) *api.Vec { return &s.Tracks[0].Keys[0].Value }, api.Most, api.ErrTrack, 0),
		points("a ball's A", func(s *scene.Scene) *api.Vec { return &s.Shapes[2].A }, 256*one, api.ErrShape, 2),
		points("a ball's B", func(s *scene.Scene) *api.Vec { return &s.Shapes[2].B }, 0, api.ErrShape, 2),
		points("a ball's C", func(s *scene.Scene) *api.Vec { return &s.Shapes[0].C }, 0, api.ErrShape, 0),
		points("a face's A", func(s *scene.Scene) *api.Vec { return &s.Shapes[1].A }, 256*one, api.ErrShape, 1),
		points("a face's B", func(s *scene.Scene) *api.Vec { return &s.Shapes[3].B }, 256*one, api.ErrShape, 3),
		points("a face's C", func(s *scene.Scene) *api.Vec { return &s.Shapes[1].C }, 256*one, api.ErrShape, 1),
	)
}

// P8.1
func TestCheckRight(t *testing.T) {
	for i, s := range rightScenes() {
		isChecked(t, []string{"bare", "alone", "usual", "full"}[i], s, api.OK, 0)
	}
}

// P8.1: each number that has bounds, at its ends and beyond them.
func TestCheckBounds(t *testing.T) {
	for _, f := range wholes() {
		f.isBounded(t, math.MinInt, math.MaxInt)
	}
	for _, f := range fixes() {
		f.isBounded(t, math.MinInt64, math.MaxInt64)
	}
}

// P8.1: any seed may be.
func TestCheckSeed(t *testing.T) {
	for _, seed := range []uint64{0, 1, 1 << 63, math.MaxUint64} {
		s := usual()
		s.Seed = seed
		isChecked(t, "a seed", s, api.OK, 0)
	}
}

// P8.1: a shape has the numbers of its kind, and is of one that there is.
func TestCheckKinds(t *testing.T) {
	for _, kind := range []int{math.MinInt, -1, 2, 3, 256, math.MaxInt} {
		for i := range 4 {
			s := usual()
			s.Shapes[i].Kind = kind
			isChecked(t, "no such kind", s, api.ErrShape, i)
		}
	}
	s := usual()
	s.Shapes[2].Kind = scene.Face
	isChecked(t, "a face with a radius", s, api.ErrShape, 2)
	s.Shapes[2].Radius = 0
	isChecked(t, "a face of a point and twice zero", s, api.OK, 0)
	s.Shapes[2].A = api.Vec{}
	isChecked(t, "a face of zeros", s, api.OK, 0)
	s = usual()
	s.Shapes[1].Kind, s.Shapes[1].Radius = scene.Ball, one
	isChecked(t, "a ball with corners", s, api.ErrShape, 1)
	s.Shapes[1].B = api.Vec{}
	isChecked(t, "a ball with one corner too many", s, api.ErrShape, 1)
	s.Shapes[1].C = api.Vec{}
	isChecked(t, "a ball", s, api.OK, 0)
}

// P8.1: tracks are those of layer 6.
func TestCheckTracks(t *testing.T) {
	rows := map[string][]track.Key{
		"none": nil, "no keys": {}, "alike": {{Time: 1}, {Time: 1}}, "falling": {{Time: 2}, {Time: 1}}, "the second one beyond": {{Time: 1}, {Time: 32*one + 1}},
		"17": append(slices.Clone(full().Tracks[0].Keys[:15]), track.Key{Time: 29 * one}, track.Key{Time: 30 * one}),
	}
	for name, keys := range rows {
		for i := range 3 {
			s := usual()
			s.Tracks[i].Keys = keys
			isChecked(t, name, s, api.ErrTrack, i)
		}
	}
}

// P8.1, example 1: what a scene may be without.
func TestCheckLists(t *testing.T) {
	s := bare()
	s.Tracks = []track.Track{}
	isChecked(t, "no tracks", s, api.ErrLens, 0)
	s.Tracks = nil
	isChecked(t, "nil tracks", s, api.ErrLens, 0)
	s = bare()
	s.Paints, s.Joints, s.Shapes = []scene.Paint{}, []scene.Joint{}, []scene.Shape{}
	isChecked(t, "no paints, joints, shapes", s, api.OK, 0)
	s.Shapes = []scene.Shape{ball(-1, 0, v(0, 0, 0), one)}
	isChecked(t, "a shape without a paint", s, api.ErrShape, 0)
	s = usual()
	s.Joints = nil
	isChecked(t, "shapes without joints", s, api.ErrShape, 1)
	s = bare()
	s.Look = 1
	isChecked(t, "no such track", s, api.ErrLens, 0)
	isChecked(t, "zero", scene.Scene{}, api.ErrHeader, 0)
}

// grown are the kinds of lists, each as a scene's that has more of it.
func grown() []struct {
	err  api.Errno
	most int
	grow func(s *scene.Scene, many int)
} {
	return []struct {
		err  api.Errno
		most int
		grow func(s *scene.Scene, many int)
	}{
		{api.ErrPaint, 32, func(s *scene.Scene, many int) { s.Paints = slices.Repeat(s.Paints[:1], many) }},
		{api.ErrTrack, 32, func(s *scene.Scene, many int) { s.Tracks = slices.Repeat(s.Tracks[:1], many) }},
		{api.ErrJoint, 32, func(s *scene.Scene, many int) { s.Joints = slices.Repeat(s.Joints[:1], many) }},
		{api.ErrShape, 128, func(s *scene.Scene, many int) { s.Shapes = slices.Repeat(s.Shapes[:1], many) }},
	}
}

// bald is the usual scene with shapes that need no more than one of each list.
func bald() scene.Scene {
	s := usual()
	s.Lens = scene.Lens{Wide: one}
	s.Joints = []scene.Joint{{Parent: -1, Move: -1, Turn: -1, Size: one}}
	s.Shapes = s.Shapes[:1]
	return s
}

// P8.1: as many as may be, and more.
func TestCheckCounts(t *testing.T) {
	for _, g := range grown() {
		for many := 1; many <= g.most; many++ {
			s := bald()
			g.grow(&s, many)
			isChecked(t, "as many as may be", s, api.OK, 0)
		}
		for _, many := range []int{g.most + 1, g.most + 2, 256, 1000, 100000} {
			s := bald()
			g.grow(&s, many)
			isChecked(t, "more than may be", s, g.err, g.most)
		}
	}
}

// P8.1: too many are told ahead of one that may not be.
func TestCheckCountsFirst(t *testing.T) {
	for _, at := range []int{0, 5, 31, 32} {
		s := full()
		s.Paints = append(s.Paints, s.Paints[0])
		s.Paints[at].Kind = -1
		isChecked(t, "paints", s, api.ErrPaint, 32)
		s = full()
		s.Tracks = append(s.Tracks, s.Tracks[0])
		s.Tracks[at].Way = -1
		isChecked(t, "tracks", s, api.ErrTrack, 32)
		s = full()
		s.Joints = append(s.Joints, s.Joints[0])
		s.Joints[at].Size = 0
		isChecked(t, "joints", s, api.ErrJoint, 32)
		s = full()
		s.Shapes = append(s.Shapes, s.Shapes[1])
		s.Shapes[at*4].Paint = -1
		isChecked(t, "shapes", s, api.ErrShape, 128)
	}
}

// P8.1: of several that may not be the first one is told, wherever it stands.
func TestCheckPlaces(t *testing.T) {
	for i := range 32 {
		for _, j := range []int{i, 31} {
			s := full()
			s.Paints[i].Kind, s.Paints[j].Kind = 4, 4
			isChecked(t, "paints", s, api.ErrPaint, i)
			s = full()
			s.Tracks[i].Way, s.Tracks[j].Way = 3, 3
			isChecked(t, "tracks", s, api.ErrTrack, i)
			s = full()
			s.Joints[i].Move, s.Joints[j].Size = 32, 0
			isChecked(t, "joints", s, api.ErrJoint, i)
		}
		s := full()
		s.Joints[i].Parent = i
		isChecked(t, "a joint on itself", s, api.ErrJoint, i)
	}
	for i := range 128 {
		s := full()
		s.Shapes[i].Radius, s.Shapes[127].Joint = -1, 32
		isChecked(t, "shapes", s, api.ErrShape, i)
	}
}

// P8.1: the lamp that is one too many.
func TestCheckLamps(t *testing.T) {
	s := full()
	if n := len(s.Lamps()); n != 16 {
		t.Fatalf("the full scene has %d lamps", n)
	}
	isChecked(t, "16 lamps", s, api.OK, 0)
	s.Shapes[127].Paint = 3
	isChecked(t, "17 lamps, the last one", s, api.ErrLamp, 127)
	s.Shapes[125].Paint = 3
	isChecked(t, "18 lamps", s, api.ErrLamp, 126)
	s.Shapes[0].Paint = 3
	isChecked(t, "19 lamps", s, api.ErrLamp, 125)
	s.Shapes[1].Paint = 3
	isChecked(t, "20 lamps", s, api.ErrLamp, 118)
	s = usual()
	for _, many := range []int{1, 15, 16} {
		s.Shapes = slices.Repeat(usual().Shapes[2:3], many)
		isChecked(t, "lamps alone", s, api.OK, 0)
	}
	for _, many := range []int{17, 18, 128} {
		s.Shapes = slices.Repeat(usual().Shapes[2:3], many)
		isChecked(t, "too many lamps alone", s, api.ErrLamp, 16)
	}
}

// P8.1: of all rules that are broken the first one is told.
func TestCheckOrder(t *testing.T) {
	breaks := []struct {
		err   api.Errno
		where int
		do    func(s *scene.Scene)
	}{
		{api.ErrHeader, 0, func(s *scene.Scene) { s.Width = 0 }},
		{api.ErrPaint, 5, func(s *scene.Scene) { s.Paints[5].Rough = -1 }},
		{api.ErrTrack, 6, func(s *scene.Scene) { s.Tracks[6].Way = 3 }},
		{api.ErrJoint, 7, func(s *scene.Scene) { s.Joints[7].Turn = -2 }},
		{api.ErrShape, 8, func(s *scene.Scene) { s.Shapes[8].Kind = 2 }},
		{api.ErrLens, 0, func(s *scene.Scene) { s.Wide = 0 }},
		{api.ErrLamp, 125, func(s *scene.Scene) { s.Shapes[124].Paint, s.Shapes[125].Paint = 3, 3 }},
	}
	for set := 1; set < 1<<len(breaks); set++ {
		s := full()
		s.Shapes[126].Paint = 2
		first := -1
		for i, b := range breaks {
			if set>>i&1 == 1 {
				b.do(&s)
				if first < 0 {
					first = i
				}
			}
		}
		isChecked(t, "rules broken", s, breaks[first].err, breaks[first].where)
	}
}

// P8.1: too many of a list are told behind what is broken ahead, and ahead of what is broken behind.
func TestCheckOrderOfCounts(t *testing.T) {
	lists := grown()
	for i, first := range lists {
		for _, second := range lists[i+1:] {
			s := bald()
			second.grow(&s, second.most+1)
			first.grow(&s, first.most+1)
			isChecked(t, "two lists", s, first.err, first.most)
		}
		s := bald()
		first.grow(&s, first.most+1)
		s.Look = -1
		isChecked(t, "a list and the lens", s, first.err, first.most)
		s.Depth = 0
		isChecked(t, "a list and the header", s, api.ErrHeader, 0)
	}
}

// P8.3
func TestLessBreaksNoRule(t *testing.T) {
	for _, s := range rightScenes() {
		for n := len(s.Shapes); n >= 0; n-- {
			s.Shapes = s.Shapes[:n]
			isChecked(t, "fewer shapes", s, api.OK, 0)
		}
	}
	for _, s := range rightScenes() {
		for s.Frames > 1 {
			s.Frames--
			isChecked(t, "fewer frames", s, api.OK, 0)
		}
	}
	for _, s := range rightScenes() {
		for len(s.Paints) > 0 && len(s.Paints) < 32 {
			s.Paints = append(s.Paints, s.Paints[len(s.Paints)-1])
			isChecked(t, "the last paint twice", s, api.OK, 0)
		}
	}
}
