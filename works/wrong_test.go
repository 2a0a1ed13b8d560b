package works_test

import (
	"bytes"
	"encoding/binary"
	"math"
	"reflect"
	"slices"
	"testing"

	"zoetrope/api"
	"zoetrope/scene"
	"zoetrope/stamp"
	"zoetrope/track"
	"zoetrope/works"
)

// far are numbers that are no kind, and no frame.
var far = []int{-1, -2, -4, 128, 255, 256, 257, 1 << 16, 1<<31 - 1, 1 << 31, -1 << 31, 1 << 32, 1<<32 + 1, -1 << 32, math.MaxInt / 4, math.MaxInt/4 + 1, math.MaxInt, math.MinInt, math.MinInt + 1}

// broken is a way to break a rule of room, and the error of that.
type broken struct {
	what string
	by   func(s *scene.Scene)
	want api.Errno
}

// brokens break each rule, the first ones first.
func brokens() []broken {
	lamps := func(s *scene.Scene) { s.Shapes = slices.Repeat([]scene.Shape{ball(-1, 3, v(0, 0, 0), one)}, 17) }
	return []broken{
		{"no size", func(s *scene.Scene) { s.Width = 0 }, api.ErrHeader}, {"too high", func(s *scene.Scene) { s.Height = 65 }, api.ErrHeader}, {"no frame", func(s *scene.Scene) { s.Frames = 0 }, api.ErrHeader}, {"below no frame", func(s *scene.Scene) { s.Frames = math.MinInt }, api.ErrHeader},
		{"too many frames", func(s *scene.Scene) { s.Frames = 33 }, api.ErrHeader}, {"far too many frames", func(s *scene.Scene) { s.Frames = math.MaxInt }, api.ErrHeader}, {"a sky below 0", func(s *scene.Scene) { s.Sky.G = -1 }, api.ErrHeader},
		{"no such paint", func(s *scene.Scene) { s.Paints[1].Kind = 4 }, api.ErrPaint}, {"no track", func(s *scene.Scene) { s.Tracks[2] = track.Track{} }, api.ErrTrack}, {"a joint on itself", func(s *scene.Scene) { s.Joints[1].Parent = 1 }, api.ErrJoint},
		{"no radius", func(s *scene.Scene) { s.Shapes[1].Radius = 0 }, api.ErrShape}, {"no such track", func(s *scene.Scene) { s.Eye = 4 }, api.ErrLens}, {"too many lamps", lamps, api.ErrLamp},
		{"all zero", func(s *scene.Scene) { *s = scene.Scene{} }, api.ErrHeader}, {"header and lens", func(s *scene.Scene) { s.Depth, s.Wide = 7, 0 }, api.ErrHeader}, {"joint and lens", func(s *scene.Scene) { s.Joints[0].Size, s.Look = 0, -1 }, api.ErrJoint},
	}
}

// P27.1, P27.2: of a scene that breaks a rule no work is made, whatever else is wrong, and nothing fits.
func TestBrokenScenes(t *testing.T) {
	l := all(t, room())
	for _, x := range brokens() {
		s := room()
		x.by(&s)
		if got, e := works.All(s); e != x.want || len(got) != 0 {
			t.Errorf("%s: %d works, %d, not %d", x.what, len(got), e, x.want)
		}
		for frame := range 3 {
			for kind := range stamp.Kinds {
				wantRefused(t, x.what, x.want, s, kind, frame, handed(l, kind, frame)...)
			}
		}
		wantRefused(t, x.what+", no such kind", x.want, s, 4, 0)
		wantRefused(t, x.what+", no such frame", x.want, s, 0, -1)
		wantRefused(t, x.what+", too few others", x.want, s, 3, 0)
		wantRefused(t, x.what+", wrong bytes", x.want, s, 3, 0, nil)
		if many, blocks := works.Bound(s); many != 0 || blocks != 0 {
			t.Errorf("%s: Bound is %d, %d", x.what, many, blocks)
		}
		for _, blocks := range []int{math.MinInt, -1, 0, 1, 4, 100, 8192, math.MaxInt} {
			if works.Fits(s, blocks) {
				t.Errorf("%s fits %d blocks", x.what, blocks)
			}
		}
	}
}

// P27.1: kinds and frames that there aren't, whatever is handed in.
func TestNoSuchWork(t *testing.T) {
	s := room()
	l := all(t, s)
	for _, in := range [][][]byte{nil, l[2:3], l[:2], l[:3], {l[4], l[0], l[1]}, {nil}, {nil, nil}} {
		for _, kind := range append([]int{4, 5, 8}, far...) {
			for _, frame := range append([]int{0, 1, 2, 3}, far...) {
				wantRefused(t, "no such kind", api.ErrArg, s, kind, frame, in...)
			}
		}
		for _, frame := range append([]int{3, 4, 31, 32}, far...) {
			for kind := range stamp.Kinds {
				wantRefused(t, "no such frame", api.ErrArg, s, kind, frame, in...)
			}
		}
	}
}

// P27.1: works that need another number of others: even if those that they need are among them, or nothing is.
func TestOtherNumber(t *testing.T) {
	s := room()
	l := all(t, s)
	for frame := range s.Frames {
		for kind := range stamp.Kinds {
			in := handed(l, kind, frame)
			for many := range 9 {
				if many == len(in) {
					continue
				}
				wantRefused(t, "another number", api.ErrArg, s, kind, frame, slices.Repeat(append(in, l[0]), many+1)[:many]...)
				wantRefused(t, "another number", api.ErrArg, s, kind, frame, make([][]byte, many)...)
			}
		}
	}
	wantRefused(t, "very many", api.ErrArg, s, stamp.Trace, 0, make([][]byte, 1<<16)...)
}

// wrongs are a film's, or a sheet's, bytes, made wrong in some ways, and the error of each.
func wrongs(b []byte) map[string]struct {
	b    []byte
	want api.Errno
} {
	type wrong = struct {
		b    []byte
		want api.Errno
	}
	with := func(at int, p ...byte) []byte { return slices.Replace(slices.Clone(b), at, at+len(p), p...) }
	l := map[string]wrong{
		"nothing": {nil, api.ErrShort}, "no byte": {[]byte{}, api.ErrShort}, "one byte": {b[:1], api.ErrShort}, "the head alone": {b[:4], api.ErrShort}, "a byte too few": {b[:len(b)-1], api.ErrShort},
		"a byte too many": {append(slices.Clone(b), 0), api.ErrForm}, "no width": {with(0, 0), api.ErrForm}, "no height, and nothing behind": {with(2, 0)[:4], api.ErrForm}, "too wide": {with(0, 65), api.ErrForm}, "far too high": {with(3, 1), api.ErrForm},
		"a light too great": {with(4, 1, 0, 0, 128, 0), api.ErrOver}, "a light too small": {with(9, 255, 255, 255, 127, 255), api.ErrOver}, "a light too great, and too short": {with(4, 1, 0, 0, 128, 0)[:40], api.ErrOver},
	}
	n := int(binary.LittleEndian.Uint16(b)) * int(binary.LittleEndian.Uint16(b[2:]))
	if len(b) == 4+54*n {
		l["a shape too great"] = wrong{with(4+50*n, 128), api.ErrForm}
		l["a shape too small"] = wrong{with(4+50*n, 254, 255), api.ErrForm}
		l["a flow beyond the picture"] = wrong{with(len(b)-2, byte(n), byte(n>>8)), api.ErrForm}
		l["a depth too great, and a shape"] = wrong{slices.Replace(with(4+50*n, 128), 4+15*n, 9+15*n, 1, 0, 0, 128, 0), api.ErrOver}
		l["a sheet"] = wrong{b[:4+15*n], api.ErrShort}
	} else {
		l["a film"] = wrong{append(slices.Clone(b), make([]byte, 39*n)...), api.ErrForm}
	}
	return l
}

// P27.1: bytes that are no film, no sheet: the reader's error, of the first that is wrong.
func TestWrongBytes(t *testing.T) {
	s := room()
	l := all(t, s)
	for frame := range s.Frames {
		for kind := stamp.Warp; kind < stamp.Kinds; kind++ {
			in := handed(l, kind, frame)
			for place := range in {
				for what, x := range wrongs(in[place]) {
					some := slices.Clone(in)
					some[place] = x.b
					wantRefused(t, what, x.want, s, kind, frame, some...)
					// What comes behind it is wrong, too, but in another way.
					for i := place + 1; i < len(some); i++ {
						some[i] = []byte{0, 0, 0, 0}
						if x.want == api.ErrForm {
							some[i] = nil
						}
					}
					wantRefused(t, what+", and more", x.want, s, kind, frame, some...)
				}
			}
		}
	}
}

// P27.1: films and sheets whose sizes don't go together: of a lace both, of a warp those of the frame ahead; all are read ahead of that.
func TestSizesApart(t *testing.T) {
	d := draw(8)
	a, b := d.scene(3, 2), d.scene(3, 2)
	a.Width, a.Height, b.Width, b.Height = 3, 4, 4, 3
	l, m := all(t, a), all(t, b)
	wantRefused(t, "another sheet", api.ErrArg, a, stamp.Lace, 0, l[0], m[1])
	wantRefused(t, "another film", api.ErrArg, a, stamp.Lace, 1, m[4], l[5])
	wantRefused(t, "another sheet, cut", api.ErrShort, a, stamp.Lace, 0, l[0], m[1][:len(m[1])-1])
	wantRefused(t, "another warp ahead", api.ErrArg, a, stamp.Warp, 1, l[4], l[0], m[1])
	wantRefused(t, "another film ahead", api.ErrArg, a, stamp.Warp, 1, l[4], m[0], l[1])
	wantRefused(t, "another film ahead, and a cut warp", api.ErrShort, a, stamp.Warp, 1, l[4], m[0], l[1][:5])
	// Layer 19 lets the frame ahead have another size.
	if got, e := works.Do(a, stamp.Warp, 1, l[4], m[0], m[1]); e != api.OK || len(got) != len(l[5]) {
		t.Errorf("a frame ahead of another size: %d bytes, %d", len(got), e)
	}
}

// roomy is a text in new memory, with room behind its end that holds bytes.
func roomy(b []byte) []byte { return append(slices.Clone(b), "zoetrope"...)[:len(b)] }

// R3, R5: what is handed in stays, with the room behind its end; what is made is new memory, and the same once more.
func TestNewMemory(t *testing.T) {
	s := room()
	s.Shapes = slices.Grow(s.Shapes, 4)
	l := all(t, s)
	want := all(t, room())
	for frame := range s.Frames {
		for kind := range stamp.Kinds {
			in := append(handed(l, kind, frame), nil, nil)
			in = in[:len(in)-2]
			for i := range in {
				in[i] = roomy(in[i])
			}
			was := slices.Clone(in)
			for range 2 {
				b, e := works.Do(s, kind, frame, in...)
				if e != api.OK || !bytes.Equal(b, want[4*frame+kind]) {
					t.Fatalf("the kind %d, the frame %d: %d", kind, frame, e)
				}
				spoil(b)
			}
			for i, n := range needed(kind, frame) {
				if !bytes.Equal(in[i], want[n]) || string(in[i][len(in[i]):len(in[i])+8]) != "zoetrope" || &in[i][0] != &was[i][0] {
					t.Errorf("the kind %d, the frame %d: its need %d was changed", kind, frame, i)
				}
			}
			if in = in[:len(in)+2]; in[len(in)-1] != nil || in[len(in)-2] != nil {
				t.Errorf("the kind %d, the frame %d: the room behind its needs was changed", kind, frame)
			}
		}
	}
	for i := range l {
		spoil(l[i])
		for k := i + 1; k < len(l); k++ {
			if !bytes.Equal(l[k], want[k]) {
				t.Fatalf("the works %d and %d share memory", i, k)
			}
		}
	}
	if works.Bound(s); !works.Fits(s, api.MaxBlocks) || !reflect.DeepEqual(s, room()) {
		t.Errorf("the scene was changed: %v", s)
	}
}

// spoil writes into a text and the room behind its end.
func spoil(b []byte) {
	b = b[:cap(b)]
	for i := range b {
		b[i] = 0xa5
	}
}
