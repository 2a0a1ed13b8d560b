package job_test

import (
	"encoding/hex"
	"math"
	"math/rand"
	"reflect"
	"slices"
	"strings"
	"testing"

	"zoetrope/api"
	"zoetrope/hue"
	"zoetrope/job"
	"zoetrope/scene"
	"zoetrope/track"
)

// The calls, with the signatures that the chapter tells.
var (
	_ func(scene.Scene) ([]byte, api.Errno) = job.Encode
	_ func([]byte) (scene.Scene, api.Errno) = job.Parse
)

const one = api.One

// v is a point of three numbers, h a light, in units.
func v(x, y, z api.Fix) api.Vec { return api.Vec{X: x, Y: y, Z: z} }

func h(r, g, b api.Fix) hue.Hue { return hue.Hue{R: r, G: g, B: b} }

// bare is a scene of one track, that is looked from and to.
func bare() scene.Scene {
	return scene.Scene{
		Header: scene.Header{Width: 1, Height: 1, Samples: 1, Depth: 1, Frames: 1},
		Lens:   scene.Lens{Wide: one},
		Tracks: []track.Track{track.Still(v(1, 2, 3))},
	}
}

// usual is a scene of some of each list, no two numbers of it beside each other alike.
func usual() scene.Scene {
	return scene.Scene{
		Header: scene.Header{Width: 3, Height: 64, Samples: 16, Depth: 5, Frames: 32, Shutter: one / 2, Seed: 0x0807060504030201, Sky: h(one, 2, 16*one)},
		Lens:   scene.Lens{Eye: 1, Look: 0, Wide: 8 * one},
		Paints: []scene.Paint{{Kind: scene.Gloss, Color: h(5, 6, 7), Rough: one}, {Kind: scene.Glow, Color: h(1, one, 0)}},
		Tracks: []track.Track{
			{Way: track.Ease, Keys: []track.Key{{Time: 4, Value: v(api.Most, -1, -api.Most)}, {Time: 32 * one, Value: v(1, 2, 3)}}},
			{Way: track.Step, Keys: []track.Key{{Time: 0, Value: v(-2, 0, 9)}}},
		},
		Joints: []scene.Joint{{Parent: -1, Move: 1, Turn: -1, Size: 1}, {Parent: 0, Move: -1, Turn: 0, Size: 64 * one}},
		Shapes: []scene.Shape{
			{Base: scene.Base{Joint: -1, Paint: 1}, Kind: scene.Ball, A: v(256*one, -256*one, 3), Radius: 2},
			{Base: scene.Base{Joint: 1, Paint: 0}, Kind: scene.Face, A: v(1, -1, 2), B: v(-2, 3, -3), C: v(4, -4, 5)},
		},
	}
}

// usualJob is the usual scene's job, byte by byte.
func usualJob() []byte {
	return bytesOf(
		"5a 4f 45 31", "0300 4000 1000 0500 2000", "0080000000", "0102030405060708", "0000010000 0200000000 0000100000", // the header
		"0100 0000 0000080000", // the lens
		"02 02 02 02",
		"02 0500000000 0600000000 0700000000 0000010000", "03 0100000000 0000010000 0000000000 0000000000", // paints
		"02 02", "0400000000 0000008000 ffffffffff 00000080ff", "0000200000 0100000000 0200000000 0300000000", // tracks
		"00 01", "0000000000 feffffffff 0000000000 0900000000",
		"ffff 0100 ffff 0100000000", "0000 ffff 0000 0000400000", // joints
		"ffff 0100 00 0000000100 000000ffff 0300000000 0200000000",                                                        // a ball
		"0100 0000 01 0100000000 ffffffffff 0200000000 feffffffff 0300000000 fdffffffff 0400000000 fcffffffff 0500000000", // a face
	)
}

// bytesOf are bytes, told in hexadecimal.
func bytesOf(l ...string) []byte {
	b, err := hex.DecodeString(strings.ReplaceAll(strings.Join(l, ""), " ", ""))
	if err != nil {
		panic(err)
	}
	return b
}

// full is a scene of as much as there may be.
func full() scene.Scene {
	s := usual()
	s.Header = scene.Header{Width: 64, Height: 64, Samples: 16, Depth: 6, Frames: 32, Shutter: one, Seed: math.MaxUint64, Sky: hue.Gray(16 * one)}
	s.Paints = slices.Repeat(usual().Paints, 16)
	s.Joints = slices.Repeat(usual().Joints[:1], 32)
	s.Shapes = slices.Repeat(slices.Repeat(usual().Shapes[1:], 8), 16)
	for i := range 16 {
		s.Shapes[8*i+3] = usual().Shapes[0]
	}
	s.Tracks = nil
	for way := range 32 {
		t := track.Track{Way: way % 3}
		for i := range api.Fix(16) {
			t.Keys = append(t.Keys, track.Key{Time: 2 * i * one, Value: v(i, api.Fix(way), -i)})
		}
		s.Tracks = append(s.Tracks, t)
	}
	return s
}

// laid is a job of a scene, whether or not it breaks a rule, laid apart from the program.
func laid(s scene.Scene) []byte {
	var b []byte
	number := func(size int, l ...int64) {
		for _, n := range l {
			for range size {
				b = append(b, byte(n))
				n >>= 8
			}
		}
	}
	fixes := func(l ...api.Fix) {
		for _, n := range l {
			number(5, int64(n))
		}
	}
	halves := func(l ...int) {
		for _, n := range l {
			number(2, int64(n))
		}
	}
	b = append(b, "ZOE1"...)
	halves(s.Width, s.Height, s.Samples, s.Depth, s.Frames)
	fixes(s.Shutter)
	number(8, int64(s.Seed))
	fixes(s.Sky.R, s.Sky.G, s.Sky.B)
	halves(s.Eye, s.Look)
	fixes(s.Wide)
	b = append(b, byte(len(s.Paints)), byte(len(s.Tracks)), byte(len(s.Joints)), byte(len(s.Shapes)))
	for _, p := range s.Paints {
		b = append(b, byte(p.Kind))
		fixes(p.Color.R, p.Color.G, p.Color.B, p.Rough)
	}
	for _, t := range s.Tracks {
		b = append(b, byte(t.Way), byte(len(t.Keys)))
		for _, k := range t.Keys {
			fixes(k.Time, k.Value.X, k.Value.Y, k.Value.Z)
		}
	}
	for _, j := range s.Joints {
		halves(j.Parent, j.Move, j.Turn)
		fixes(j.Size)
	}
	for _, x := range s.Shapes {
		halves(x.Joint, x.Paint)
		b = append(b, byte(x.Kind))
		fixes(x.A.X, x.A.Y, x.A.Z)
		if x.Kind == scene.Ball {
			fixes(x.Radius)
		} else {
			fixes(x.B.X, x.B.Y, x.B.Z, x.C.X, x.C.Y, x.C.Z)
		}
	}
	return b
}

// chance draws numbers, the same ones in every run.
type chance struct{ *rand.Rand }

// fix is a number between two others, one of them more often than others.
func (c chance) fix(least, greatest api.Fix) api.Fix {
	switch c.Intn(6) {
	case 0:
		return least
	case 1:
		return greatest
	}
	return least + api.Fix(c.Int63n(int64(greatest-least)+1))
}

func (c chance) point(most api.Fix) api.Vec {
	return v(c.fix(-most, most), c.fix(-most, most), c.fix(-most, most))
}

func (c chance) light() hue.Hue {
	return h(c.fix(0, 16*one), c.fix(0, 16*one), c.fix(0, 16*one))
}

func (c chance) track() track.Track {
	var keys []track.Key
	for range 1 + c.Intn(20) {
		keys = append(keys, track.Key{Time: c.fix(0, 32*one), Value: c.point(api.Most)})
	}
	t, _ := track.Make(c.Intn(3), keys[:min(16, len(keys))]...)
	return t
}

func (c chance) shape(joints, paints int) scene.Shape {
	x := scene.Shape{Base: scene.Base{Joint: c.Intn(joints+1) - 1, Paint: c.Intn(paints)}, Kind: c.Intn(2), A: c.point(256 * one)}
	if x.Kind == scene.Ball {
		x.Radius = c.fix(1, 64*one)
	} else {
		x.B, x.C = c.point(256*one), c.point(256*one)
	}
	return x
}

// scene is a scene that breaks no rule.
func (c chance) scene() scene.Scene {
	s := scene.Scene{Header: scene.Header{
		Width: 1 + c.Intn(64), Height: 1 + c.Intn(64), Samples: 1 + c.Intn(16), Depth: 1 + c.Intn(6), Frames: 1 + c.Intn(32),
		Shutter: c.fix(0, one), Seed: c.Uint64(), Sky: c.light(),
	}}
	for range c.Intn(33) {
		s.Paints = append(s.Paints, scene.Paint{Kind: c.Intn(3), Color: c.light(), Rough: c.fix(0, one)})
	}
	for range 1 + c.Intn(32) {
		s.Tracks = append(s.Tracks, c.track())
	}
	for i := range c.Intn(33) {
		s.Joints = append(s.Joints, scene.Joint{Parent: c.Intn(i+1) - 1, Move: c.Intn(len(s.Tracks)+1) - 1, Turn: c.Intn(len(s.Tracks)+1) - 1, Size: c.fix(1, 64*one)})
	}
	if len(s.Paints) > 0 {
		for range c.Intn(129) {
			s.Shapes = append(s.Shapes, c.shape(len(s.Joints), len(s.Paints)))
		}
	}
	s.Lens = scene.Lens{Eye: c.Intn(len(s.Tracks)), Look: c.Intn(len(s.Tracks)), Wide: c.fix(1, 8*one)}
	return s
}

// scenes are scenes that break no rule.
func scenes() []scene.Scene {
	l := []scene.Scene{bare(), usual(), full()}
	c := chance{rand.New(rand.NewSource(9))}
	for range 300 {
		l = append(l, c.scene())
	}
	return l
}

// isEncoded tells whether a scene's job is what it must be.
func isEncoded(t *testing.T, name string, s scene.Scene, want []byte) {
	t.Helper()
	if b, e := job.Encode(s); e != api.OK || !slices.Equal(b, want) {
		t.Errorf("%s: Encode = %x, %d, not %x", name, b, e, want)
	}
}

// isParsed tells whether a job's scene is what it must be.
func isParsed(t *testing.T, name string, b []byte, want scene.Scene) {
	t.Helper()
	if s, e := job.Parse(b); e != api.OK || !reflect.DeepEqual(s, want) {
		t.Errorf("%s: Parse = %v, %d, not %v", name, s, e, want)
	}
}

// isRefused tells whether bytes are refused, and leave nothing.
func isRefused(t *testing.T, name string, b []byte, want api.Errno) {
	t.Helper()
	if s, e := job.Parse(b); e != want || !reflect.DeepEqual(s, scene.Scene{}) {
		t.Errorf("%s: Parse(%x) = %v, %d, not %d", name, b, s, e, want)
	}
}

// P9.1: each byte.
func TestTheBytes(t *testing.T) {
	isEncoded(t, "usual", usual(), usualJob())
	isParsed(t, "usual", usualJob(), usual())
}

// P9.1: what is without paints, joints, shapes; and nil and empty lists are one.
func TestTheLeast(t *testing.T) {
	want := bytesOf("5a 4f 45 31", "0100 0100 0100 0100 0100", "0000000000", "0000000000000000", "0000000000 0000000000 0000000000",
		"0000 0000 0000010000", "00 01 00 00", "00 01", "0000000000 0100000000 0200000000 0300000000")
	isEncoded(t, "bare", bare(), want)
	isParsed(t, "bare", want, bare())
	s := bare()
	s.Paints, s.Joints, s.Shapes = []scene.Paint{}, []scene.Joint{}, []scene.Shape{}
	isEncoded(t, "bare, with empty lists", s, want)
}

// P9.1, P9.2: there, as laid apart from the program, and back.
func TestThereAndBack(t *testing.T) {
	for _, s := range scenes() {
		b := laid(s)
		isEncoded(t, "there", s, b)
		isParsed(t, "back", b, s)
		if t.Failed() {
			return
		}
	}
}

// broken is a scene that breaks a rule, but may stand in bytes.
type broken struct {
	name string
	err  api.Errno
	do   func(s *scene.Scene)
}

// brokens are ways to break the full scene's rules, in the order of the rules.
func brokens() []broken {
	return []broken{
		{"Width", api.ErrHeader, func(s *scene.Scene) { s.Width = 0 }},
		{"Height", api.ErrHeader, func(s *scene.Scene) { s.Height = 65 }},
		{"Samples", api.ErrHeader, func(s *scene.Scene) { s.Samples = 17 }},
		{"Depth", api.ErrHeader, func(s *scene.Scene) { s.Depth = 7 }},
		{"Frames", api.ErrHeader, func(s *scene.Scene) { s.Frames = 65535 }},
		{"Shutter", api.ErrHeader, func(s *scene.Scene) { s.Shutter = -1 }},
		{"Sky", api.ErrHeader, func(s *scene.Scene) { s.Sky.G = 16*one + 1 }},
		{"a paint's Kind", api.ErrPaint, func(s *scene.Scene) { s.Paints[31].Kind = 4 }},
		{"Color", api.ErrPaint, func(s *scene.Scene) { s.Paints[3].Color.B = -1 }},
		{"Rough", api.ErrPaint, func(s *scene.Scene) { s.Paints[0].Rough = one + 1 }},
		{"Way", api.ErrTrack, func(s *scene.Scene) { s.Tracks[2].Way = 3 }},
		{"a track without keys", api.ErrTrack, func(s *scene.Scene) { s.Tracks[31].Keys = nil }},
		{"Time", api.ErrTrack, func(s *scene.Scene) { s.Tracks[1].Keys[3].Time = 0 }},
		{"Parent", api.ErrJoint, func(s *scene.Scene) { s.Joints[4].Parent = 4 }},
		{"Move", api.ErrJoint, func(s *scene.Scene) { s.Joints[5].Move = -2 }},
		{"Turn", api.ErrJoint, func(s *scene.Scene) { s.Joints[31].Turn = 32 }},
		{"Size", api.ErrJoint, func(s *scene.Scene) { s.Joints[0].Size = 0 }},
		{"Joint", api.ErrShape, func(s *scene.Scene) { s.Shapes[127].Joint = 32 }},
		{"Paint", api.ErrShape, func(s *scene.Scene) { s.Shapes[7].Paint = 65535 }},
		{"A", api.ErrShape, func(s *scene.Scene) { s.Shapes[3].A.X = 256*one + 1 }},
		{"C", api.ErrShape, func(s *scene.Scene) { s.Shapes[2].C.Z = -256*one - 1 }},
		{"Radius", api.ErrShape, func(s *scene.Scene) { s.Shapes[11].Radius = 64*one + 1 }},
		{"Eye", api.ErrLens, func(s *scene.Scene) { s.Eye = 32 }},
		{"Look", api.ErrLens, func(s *scene.Scene) { s.Look = 65535 }},
		{"Wide", api.ErrLens, func(s *scene.Scene) { s.Wide = 0 }},
		{"a lamp too many", api.ErrLamp, func(s *scene.Scene) { s.Shapes[0].Paint = 1 }},
	}
}

// isNoJob tells whether a scene has no job.
func isNoJob(t *testing.T, name string, s scene.Scene, want api.Errno) {
	t.Helper()
	if b, e := job.Encode(s); e != want || len(b) != 0 {
		t.Errorf("%s: Encode = %x, %d, not %d", name, b, e, want)
	}
}

// P9.1: the first broken rule, of a scene, and of one that was read.
func TestBrokenRules(t *testing.T) {
	l := brokens()
	for i, x := range l {
		s := full()
		x.do(&s)
		isNoJob(t, x.name, s, x.err)
		isRefused(t, x.name, laid(s), x.err)
		isRefused(t, x.name+", and a byte too many", append(laid(s), 0), api.ErrForm)
		isRefused(t, x.name+", and a byte too few", laid(s)[:len(laid(s))-1], api.ErrShort)
		for _, y := range l[i+1:] {
			s := full()
			x.do(&s)
			y.do(&s)
			isNoJob(t, x.name+", "+y.name, s, x.err)
			isRefused(t, x.name+", "+y.name, laid(s), x.err)
		}
	}
}

// P9.1: scenes that no bytes could be of have no job.
func TestScenesBeyondBytes(t *testing.T) {
	rows := []broken{
		{"Width", api.ErrHeader, func(s *scene.Scene) { s.Width += 1 << 16 }},
		{"Frames", api.ErrHeader, func(s *scene.Scene) { s.Frames = math.MinInt }},
		{"Sky", api.ErrHeader, func(s *scene.Scene) { s.Sky.R += 1 << 40 }},
		{"paints", api.ErrPaint, func(s *scene.Scene) { s.Paints = slices.Repeat(s.Paints, 9) }},
		{"tracks", api.ErrTrack, func(s *scene.Scene) { s.Tracks = append(s.Tracks, s.Tracks[0]) }},
		{"keys", api.ErrTrack, func(s *scene.Scene) { s.Tracks[9].Keys = slices.Repeat(s.Tracks[9].Keys, 17) }},
		{"joints", api.ErrJoint, func(s *scene.Scene) { s.Joints = slices.Repeat(s.Joints, 2) }},
		{"Parent", api.ErrJoint, func(s *scene.Scene) { s.Joints[1].Parent = -1 - 1<<16 }},
		{"shapes", api.ErrShape, func(s *scene.Scene) { s.Shapes = slices.Repeat(s.Shapes, 3) }},
		{"Kind", api.ErrShape, func(s *scene.Scene) { s.Shapes[3].Kind = 256 }},
		{"a ball's C", api.ErrShape, func(s *scene.Scene) { s.Shapes[3].C.Y = 1 }},
		{"a face's Radius", api.ErrShape, func(s *scene.Scene) { s.Shapes[4].Radius = 1 }},
	}
	for _, x := range rows {
		s := full()
		x.do(&s)
		isNoJob(t, x.name, s, x.err)
	}
	isNoJob(t, "zero", scene.Scene{}, api.ErrHeader)
}

// P9.1: bytes that end ahead of the job's end, wherever.
func TestShort(t *testing.T) {
	for _, b := range [][]byte{usualJob(), laid(full())} {
		for n := range b {
			isRefused(t, "the beginning", b[:n], api.ErrShort)
		}
		for _, more := range [][]byte{{0}, {255}, b} {
			isRefused(t, "with bytes behind", slices.Concat(b, more), api.ErrForm)
		}
	}
	isRefused(t, "nil", nil, api.ErrShort)
}

// P9.1, example 1: the first byte that isn't the magic's is told, whether or not there are bytes behind it.
func TestMagic(t *testing.T) {
	for i := range 4 {
		for n := range 256 {
			b := usualJob()
			if b[i] == byte(n) {
				continue
			}
			b[i] = byte(n)
			isRefused(t, "another byte", b, api.ErrMagic)
			isRefused(t, "another byte, the last one", b[:i+1], api.ErrMagic)
		}
	}
	rows := map[string]api.Errno{
		"": api.ErrShort, "Z": api.ErrShort, "ZO": api.ErrShort, "ZOE": api.ErrShort, "ZOE1": api.ErrShort,
		"ZOE2": api.ErrMagic, "z": api.ErrMagic, "ZX": api.ErrMagic, "ZOe": api.ErrMagic, "XX": api.ErrMagic, "1EOZ": api.ErrMagic, "\x00": api.ErrMagic,
	}
	for text, want := range rows {
		isRefused(t, text, []byte(text), want)
	}
}

// countsAt is where a job tells how many paints there are; the other lists' numbers stand behind it.
const countsAt = 51

// P9.1: too many of a list are told as soon as they are read.
func TestCounts(t *testing.T) {
	rows := []struct {
		most int
		err  api.Errno
	}{{32, api.ErrPaint}, {32, api.ErrTrack}, {32, api.ErrJoint}, {128, api.ErrShape}}
	for i, r := range rows {
		at := countsAt + i
		for n := r.most + 1; n < 256; n++ {
			b := usualJob()
			b[at] = byte(n)
			isRefused(t, "too many", b, r.err)
			isRefused(t, "too many, and no byte behind", b[:at+1], r.err)
			for j := i + 1; j < 4; j++ {
				b[countsAt+j] = 255
			}
			isRefused(t, "too many, and those behind it too", b, r.err)
			b[0] = 0
			isRefused(t, "too many, and no magic", b, api.ErrMagic)
		}
		for n := range r.most + 1 {
			b := usualJob()
			b[at] = byte(n)
			isRefused(t, "not too many, and no byte behind", b[:at+1], api.ErrShort)
		}
	}
}

// P9.1: a number beyond the span is told, wherever it stands, as soon as it is read.
func TestOver(t *testing.T) {
	b := usualJob()
	places := []int{14, 27, 32, 37, 46}                                       // the shutter, the sky, the lens
	places = append(places, 56, 61, 66, 71, 77, 82, 87, 92)                   // paints
	places = append(places, 99, 104, 109, 114, 119, 124, 129, 134)            // the first track
	places = append(places, 141, 146, 151, 156, 167, 178)                     // the other one, joints
	places = append(places, 188, 193, 198, 203)                               // the ball
	places = append(places, 213, 218, 223, 228, 233, 238, 243, 248, 253, 258) // the face, and the end
	if places[len(places)-1] != len(b) {
		t.Fatalf("the job has %d bytes", len(b))
	}
	for _, at := range places[:len(places)-1] {
		for _, over := range []string{"01 00 00 80 00", "ff ff ff 7f ff", "ff ff ff ff 7f", "00 00 00 00 80"} {
			b := usualJob()
			copy(b[at:], bytesOf(over))
			isRefused(t, "over", b, api.ErrOver)
			isRefused(t, "over, and a byte too many", append(b, 0), api.ErrOver)
			isRefused(t, "over, cut in it", b[:at+4], api.ErrShort)
		}
	}
}

// trackAt is where the usual job's first track begins, faceAt where its face does.
const (
	trackAt = 97
	faceAt  = 208
)

// P9.1: too many keys are told as soon as their number is read; none at all by the scene's rule, at the end.
func TestKeyCounts(t *testing.T) {
	for n := 17; n < 256; n++ {
		b := usualJob()
		b[trackAt+1] = byte(n)
		isRefused(t, "too many keys", b, api.ErrTrack)
		isRefused(t, "too many keys, and no byte behind", b[:trackAt+2], api.ErrTrack)
		b[trackAt] = 77
		isRefused(t, "too many keys of no way", b[:trackAt+2], api.ErrTrack)
		b[14+4] = 127
		isRefused(t, "too many keys behind a number beyond the span", b, api.ErrOver)
	}
	for n := range 17 {
		b := usualJob()
		b[trackAt+1] = byte(n)
		isRefused(t, "not too many keys, and no byte behind", b[:trackAt+2], api.ErrShort)
	}
	b := laid(bare())
	b[len(b)-21] = 0
	isRefused(t, "no keys", b[:len(b)-20], api.ErrTrack)
}

// P9.1: another kind of shape is told behind its A, ahead of what would stand there.
func TestShapeKinds(t *testing.T) {
	for n := 2; n < 256; n++ {
		b := usualJob()
		b[faceAt+4] = byte(n)
		isRefused(t, "no such kind", b, api.ErrShape)
		isRefused(t, "no such kind, with nothing behind its A", b[:faceAt+20], api.ErrShape)
		isRefused(t, "no such kind, with a part of its A", b[:faceAt+19], api.ErrShort)
		isRefused(t, "no such kind, with nothing behind it", b[:faceAt+5], api.ErrShort)
		copy(b[faceAt+15:], bytesOf("01 00 00 80 00"))
		isRefused(t, "no such kind, an A beyond the span", b, api.ErrOver)
	}
	b := usualJob()
	b[faceAt+4] = scene.Ball
	isRefused(t, "a face as a ball: its C is left", b, api.ErrForm)
	isRefused(t, "a face as a ball, and no more", b[:faceAt+25], api.ErrShape)
	b[faceAt+20], b[faceAt+21], b[faceAt+22], b[faceAt+23], b[faceAt+24] = 1, 0, 0, 0, 0
	want := usual()
	want.Shapes[1] = scene.Shape{Base: want.Shapes[1].Base, Kind: scene.Ball, A: want.Shapes[1].A, Radius: 1}
	isParsed(t, "a face as a ball", b[:faceAt+25], want)
}

// P9.1: more bytes than a job may have are refused ahead of all else.
func TestLimit(t *testing.T) {
	for _, b := range [][]byte{nil, usualJob(), laid(full()), []byte("ZOE2")} {
		long := append(slices.Clone(b), make([]byte, 1<<16+1-len(b))...)
		isRefused(t, "one more than may be", long, api.ErrLimit)
		isRefused(t, "many more", append(long, long...), api.ErrLimit)
	}
	b := usualJob()
	most := append(b, make([]byte, 1<<16-len(b))...)
	isRefused(t, "as many as may be", most, api.ErrForm)
	most[3] = '2'
	isRefused(t, "as many as may be, no magic", most, api.ErrMagic)
}

// P9.2: whatever is parsed is encoded by the very bytes; what isn't leaves nothing.
func TestVeryBytes(t *testing.T) {
	parsed := 0
	for i := range usualJob() {
		for _, n := range []byte{0, 1, 2, 3, 4, 15, 16, 17, 32, 64, 127, 128, 254, 255} {
			b := usualJob()
			b[i] = n
			s, e := job.Parse(b)
			if e != api.OK {
				isRefused(t, "a byte changed", b, e)
				continue
			}
			parsed++
			isEncoded(t, "a byte changed", s, b)
		}
	}
	if parsed < 1000 {
		t.Errorf("only %d changed jobs are jobs", parsed)
	}
}

// R3: what is handed in stays, the room behind its end too, and isn't kept.
func TestKeepsNothing(t *testing.T) {
	room := append(usualJob(), 1, 2, 3)
	given := slices.Clone(room)
	s, _ := job.Parse(room[:len(room)-3])
	if !slices.Equal(room, given) {
		t.Errorf("Parse made %x of %x", room, given)
	}
	clear(room)
	if !reflect.DeepEqual(s, usual()) {
		t.Errorf("Parse keeps its bytes: %v", s)
	}
	b, _ := job.Encode(s)
	if !reflect.DeepEqual(s, usual()) {
		t.Errorf("Encode made %v of it", s)
	}
	clear(s.Paints)
	clear(s.Tracks[0].Keys)
	if !slices.Equal(b, usualJob()) {
		t.Errorf("Encode keeps its scene: %x", b)
	}
}

// R3: what is handed out is new memory, and no two lists of it share any.
func TestHandsOutNewMemory(t *testing.T) {
	want := full()
	s, _ := job.Parse(laid(full()))
	for i := range s.Tracks {
		room := s.Tracks[i].Keys[:cap(s.Tracks[i].Keys)]
		for k := range room {
			room[k] = track.Key{Time: -1}
		}
		for j := i + 1; j < len(s.Tracks); j++ {
			if !reflect.DeepEqual(s.Tracks[j], want.Tracks[j]) {
				t.Fatalf("the keys of the tracks %d and %d share memory", i, j)
			}
		}
	}
	isParsed(t, "once more", laid(full()), full())
	b, _ := job.Encode(usual())
	clear(b[:cap(b)])
	isEncoded(t, "once more", usual(), usualJob())
}

// R1: whatever bytes there are, Parse ends.
func TestAnyBytes(t *testing.T) {
	c := chance{rand.New(rand.NewSource(4))}
	b := usualJob()
	for range 20000 {
		x := slices.Clone(b[:c.Intn(len(b)+1)])
		for range c.Intn(4) {
			if len(x) > 0 {
				x[c.Intn(len(x))] = byte(c.Intn(256))
			}
		}
		if s, e := job.Parse(x); e != api.OK {
			isRefused(t, "any bytes", x, e)
		} else {
			isEncoded(t, "any bytes", s, x)
		}
	}
}
