package plate_test

import (
	"crypto/sha256"
	"encoding/hex"
	"math"
	"reflect"
	"slices"
	"testing"

	"zoetrope/api"
	"zoetrope/film"
	"zoetrope/hue"
	"zoetrope/plate"
)

// The calls and the type, as the chapter tells them.
var (
	_ func(plate.Picture) bool                            = plate.Picture.Right
	_ func(s film.Sheet) (plate.Picture, api.Errno)       = plate.Show
	_ func(f film.Film) (plate.Picture, api.Errno)        = plate.Depths
	_ func(f film.Film) (plate.Picture, api.Errno)        = plate.Normals
	_ func(p plate.Picture) ([]byte, api.Errno)           = plate.Encode
	_ func(b []byte) (plate.Picture, api.Errno)           = plate.Decode
	_ func(s film.Size) int                               = plate.Bytes
	_ func(plate.Picture) (film.Size, [][3]byte)          = func(p plate.Picture) (film.Size, [][3]byte) { return p.Size, p.Dots }
	_ func(plate.Picture) (width, height, pixels int)     = func(p plate.Picture) (int, int, int) { return p.Width, p.Height, p.Pixels() }
	_ func(s film.Size, dots [][3]byte) (p plate.Picture) = func(s film.Size, dots [][3]byte) plate.Picture { return plate.Picture{s, dots} }
)

const (
	one  = api.One
	most = api.Most
)

// v is a point of three numbers, in units.
func v(x, y, z api.Fix) api.Vec { return api.Vec{X: x, Y: y, Z: z} }

// h is a light of three kinds, in units.
func h(r, g, b api.Fix) hue.Hue { return hue.Hue{R: r, G: g, B: b} }

// draw is a list of numbers without any order in them, the same ones in every run.
type draw uint64

// below is the next of them, from 0 on, below n.
func (d *draw) below(n int) int {
	*d = *d*6364136223846793005 + 1442695040888963407
	return int(uint64(*d) >> 32 % uint64(n))
}

// between is the next of them, from one end to the other.
func (d *draw) between(from, to api.Fix) api.Fix { return from + api.Fix(d.below(int(to-from+1))) }

// number is a number of any size, often one at the span's ends, beyond them, or about zero.
func (d *draw) number() api.Fix {
	near := []api.Fix{math.MinInt64, -most - 1, -most, -most + 1, -one - 1, -one, -1, 0, 1, 255, one, 2 * one, 1<<31 - 1, most, most + 1, math.MaxInt64}
	if d.below(3) == 0 {
		return near[d.below(len(near))]
	}
	return d.between(-1<<d.below(32), 1<<d.below(32))
}

// film is a film of a size. Another program draws the very same ones.
func (d *draw) film(s film.Size) film.Film {
	f := film.Film{Sheet: film.Sheet{Size: s}}
	for range s.Width * s.Height {
		f.Light = append(f.Light, h(d.number(), d.number(), d.number()))
		f.Depth = append(f.Depth, d.number())
		f.Normal = append(f.Normal, v(d.number(), d.number(), d.number()))
		shape := d.between(-1, 127)
		f.Shape, f.Base, f.Flow = append(f.Shape, int(shape)), append(f.Base, hue.Hue{}), append(f.Flow, -1)
	}
	return f
}

// picture is a picture of a size.
func (d *draw) picture(s film.Size) plate.Picture {
	p := plate.Picture{Size: s}
	for range s.Width * s.Height {
		p.Dots = append(p.Dots, [3]byte{byte(d.below(256)), byte(d.below(256)), byte(d.below(256))})
	}
	return p
}

// rowOf is a film of one row, black, of a shape that all pixels show, of some depths and normals.
func rowOf(shape int, depths []api.Fix, normals []api.Vec) film.Film {
	n := max(len(depths), len(normals))
	f := film.Film{
		Sheet: film.Sheet{Size: film.Size{Width: n, Height: 1}, Light: make([]hue.Hue, n)}, Depth: depths, Normal: normals,
		Base: make([]hue.Hue, n), Shape: slices.Repeat([]int{shape}, n), Flow: slices.Repeat([]int{-1}, n),
	}
	if depths == nil {
		f.Depth = make([]api.Fix, n)
	}
	if normals == nil {
		f.Normal = make([]api.Vec, n)
	}
	return f
}

// wantDots holds a picture to be of a size and some dots.
func wantDots(t *testing.T, what string, p plate.Picture, e api.Errno, s film.Size, want [][3]byte) {
	t.Helper()
	if e != api.OK || p.Size != s || !slices.Equal(p.Dots, want) {
		t.Fatalf("%s: %v, %v, %d, not %v", what, p.Size, p.Dots, e, want)
	}
}

// P21.1: sizes that may be, and just as many dots as pixels.
func TestRight(t *testing.T) {
	sides := []int{math.MinInt, -64, -1, 0, 1, 2, 3, 63, 64, 65, 1 << 32, math.MaxInt}
	for _, x := range sides {
		for _, y := range sides {
			s := film.Size{Width: x, Height: y}
			right := x >= 1 && x <= 64 && y >= 1 && y <= 64
			many := []int{0, 1, 2, 4, 64, 4096, 4225}
			if right {
				many = append(many, x*y-1, x*y, x*y+1)
			}
			for _, n := range many {
				p := plate.Picture{Size: s, Dots: make([][3]byte, n)}
				if got, want := p.Right(), right && n == x*y; got != want {
					t.Errorf("%v, %d dots: %v", s, n, got)
				}
			}
		}
	}
	if (plate.Picture{}).Right() {
		t.Errorf("the zero picture may be")
	}
}

// P21.1: lights by sight: what is below nothing is black, and each kind has its byte.
func TestShow(t *testing.T) {
	lights := []hue.Hue{
		{}, h(one, 0, 0), h(0, one, 0), h(0, 0, one), h(one, one/2, one/4), h(-1, -one, -most), h(one/16, 2*one, 3*one),
		h(16*one, -16*one, 15*one), h(most, 255*one, -most), h(math.MaxInt64, math.MinInt64, most+1), h(1, 2, 64), h(most-1, -most-1, one-1),
	}
	want := [][3]byte{
		{}, {180, 0, 0}, {0, 180, 0}, {0, 0, 180}, {180, 147, 114}, {}, {62, 208, 221},
		{247, 0, 247}, {255, 254, 0}, {255, 0, 255}, {0, 1, 8}, {255, 0, 180},
	}
	for _, s := range []film.Size{{Width: 12, Height: 1}, {Width: 1, Height: 12}, {Width: 4, Height: 3}} {
		p, e := plate.Show(film.Sheet{Size: s, Light: lights})
		wantDots(t, "Show", p, e, s, want)
	}
}

// P21.1: depths by sight: the nearer, the brighter; what is below 0 is as near as 0.
func TestDepths(t *testing.T) {
	depths := []api.Fix{
		0, 1, 128, 129, one / 16, one / 4, one / 2, one, 3 * one, 15 * one, 16 * one, 255 * one, most - 1, most, most + 1, math.MaxInt64,
		-1, -one / 2, -one + 1, -one, -one - 1, -2 * one, -most, -most - 1, math.MinInt64,
	}
	bright := []byte{255, 255, 255, 254, 240, 204, 170, 128, 64, 16, 15, 1, 0, 0, 0, 0, 255, 255, 255, 255, 255, 255, 255, 255, 255}
	var want [][3]byte
	for _, b := range bright {
		want = append(want, [3]byte{b, b, b})
	}
	for _, shape := range []int{0, 1, 127} {
		f := rowOf(shape, depths, nil)
		p, e := plate.Depths(f)
		wantDots(t, "Depths", p, e, f.Size, want)
	}
	f := rowOf(-1, depths, nil)
	p, e := plate.Depths(f)
	wantDots(t, "Depths of no shape", p, e, f.Size, make([][3]byte, len(depths)))
	// Shapes and none, pixel by pixel.
	f.Shape[3], f.Shape[7], f.Shape[24] = 0, 5, 127
	some := make([][3]byte, len(depths))
	some[3], some[7], some[24] = want[3], want[7], want[24]
	p, e = plate.Depths(f)
	wantDots(t, "Depths of some shapes", p, e, f.Size, some)
}

// P21.1: normals by sight, side by side; whether a shape is seen there isn't asked.
func TestNormals(t *testing.T) {
	normals := []api.Vec{
		v(0, 0, 0), v(one, 0, 0), v(0, one, 0), v(0, 0, one), v(-one, 0, 0), v(0, -one, 0), v(0, 0, -one), v(one/2, -one/2, one/4),
		v(1, -1, 64), v(-65279, -65278, -65536), v(2*one, -2*one, one+1), v(most, -most, most-1), v(math.MaxInt64, math.MinInt64, most+1), v(one-1, -one-1, 65),
	}
	want := [][3]byte{
		{128, 128, 128}, {255, 128, 128}, {128, 255, 128}, {128, 128, 255}, {0, 128, 128}, {128, 0, 128}, {128, 128, 0}, {191, 64, 159},
		{128, 127, 128}, {0, 1, 0}, {255, 0, 255}, {255, 0, 255}, {255, 0, 255}, {255, 0, 128},
	}
	for _, shape := range []int{-1, 0, 127} {
		f := rowOf(shape, nil, normals)
		p, e := plate.Normals(f)
		wantDots(t, "Normals", p, e, f.Size, want)
	}
}

// P21.1: each step of a side, and of what is near, by whole numbers.
func TestSteps(t *testing.T) {
	shade := func(y int) byte { return byte((255*min(max(y, 0), 65536) + 32768) / 65536) }
	for from := api.Fix(-68000); from < 68000; from += 64 {
		f := rowOf(0, make([]api.Fix, 64), make([]api.Vec, 64))
		var sides, near [][3]byte
		for i := range f.Normal {
			n := from + api.Fix(i)
			f.Normal[i], f.Depth[i] = v(n, -n, n/2), n
			// Here a shift rounds down, as Div does.
			side := func(n api.Fix) byte { return shade(int((n + one) << 16 >> 17)) }
			sides = append(sides, [3]byte{side(n), side(-n), side(n / 2)})
			b := shade(int(1 << 32 / (one + max(n, 0))))
			near = append(near, [3]byte{b, b, b})
		}
		p, e := plate.Normals(f)
		wantDots(t, "Normals", p, e, f.Size, sides)
		p, e = plate.Depths(f)
		wantDots(t, "Depths", p, e, f.Size, near)
	}
}

// P21.1: drawn films, shown by another program, too: of each file the sum's first bytes.
func TestReckoned(t *testing.T) {
	rows := []struct {
		seed          draw
		width, height int
		want          [3]string
	}{
		{1, 1, 1, [3]string{"10419105988792f7", "3aaa77f17582428b", "99a107204952724b"}},
		{2, 7, 3, [3]string{"82b3e4ecce2b520f", "fea553220c08da6a", "9bf61de7b5312c37"}},
		{3, 64, 64, [3]string{"a08ef670c77392ed", "fad4039f3e738eee", "f46d298b1b3ae266"}},
		{4, 1, 64, [3]string{"05642f4bb060c172", "f207de5a157e3f28", "e18b5a49eba757e9"}},
		{5, 10, 9, [3]string{"b057d43e0cae1bdd", "ad9691d72c928d61", "85f711bd4b909fcb"}},
	}
	for _, row := range rows {
		s := film.Size{Width: row.width, Height: row.height}
		f := row.seed.film(s)
		for i, show := range []func() (plate.Picture, api.Errno){
			func() (plate.Picture, api.Errno) { return plate.Show(f.Sheet) },
			func() (plate.Picture, api.Errno) { return plate.Depths(f) },
			func() (plate.Picture, api.Errno) { return plate.Normals(f) },
		} {
			p, e := show()
			b, e2 := plate.Encode(p)
			sum := sha256.Sum256(b)
			if got := hex.EncodeToString(sum[:8]); e != api.OK || e2 != api.OK || got != row.want[i] {
				t.Errorf("%v, the picture %d: %s, %d, %d, not %s", s, i, got, e, e2, row.want[i])
			}
		}
	}
}

// spoilings are ways to make a film one that may not be: first those that its sheet has, too.
func spoilings() (ofSheet, ofFilm []func(f *film.Film)) {
	ofSheet = []func(f *film.Film){
		func(f *film.Film) { *f = film.Film{} }, func(f *film.Film) { f.Size = film.Size{} }, func(f *film.Film) { f.Width = 0 }, func(f *film.Film) { f.Height = -2 }, func(f *film.Film) { f.Width, f.Height = -2, -3 },
		func(f *film.Film) { f.Width = 4 }, func(f *film.Film) { f.Height = 1 }, func(f *film.Film) { f.Width, f.Height = math.MaxInt, math.MaxInt }, func(f *film.Film) { f.Light = nil }, func(f *film.Film) { f.Light = f.Light[:5] },
		func(f *film.Film) { f.Light = append(f.Light, h(0, 0, 0)) },
		func(f *film.Film) {
			*f = rowOf(0, make([]api.Fix, 65), nil)
		},
	}
	ofFilm = []func(f *film.Film){
		func(f *film.Film) { f.Depth = f.Depth[:5] }, func(f *film.Film) { f.Normal = nil }, func(f *film.Film) { f.Base = append(f.Base, h(1, 1, 1)) }, func(f *film.Film) { f.Shape = f.Shape[1:] }, func(f *film.Film) { f.Flow = nil },
		func(f *film.Film) { f.Shape[5] = -2 }, func(f *film.Film) { f.Shape[0] = 128 }, func(f *film.Film) { f.Flow[5] = 6 }, func(f *film.Film) { f.Flow[0] = -2 }, func(f *film.Film) { f.Depth = append(f.Depth, 0) },
		func(f *film.Film) { f.Normal = append(f.Normal, v(0, 0, 0)) },
	}
	return ofSheet, ofFilm
}

// wantNone holds a picture to be none, for what was handed in may not be.
func wantNone(t *testing.T, what string, i int, p plate.Picture, e api.Errno) {
	t.Helper()
	if e != api.ErrArg || p.Size != (film.Size{}) || len(p.Dots) != 0 {
		t.Errorf("%s %d: %v, %d", what, i, p, e)
	}
}

// P21.1: what may not be isn't shown.
func TestNotShown(t *testing.T) {
	d := draw(11)
	six := d.film(film.Size{Width: 2, Height: 3})
	whole := func() film.Film {
		f := six
		f.Shape, f.Flow = slices.Clone(six.Shape), slices.Clone(six.Flow)
		return f
	}
	ofSheet, ofFilm := spoilings()
	for i, spoil := range slices.Concat(ofSheet, ofFilm) {
		f := whole()
		spoil(&f)
		p, e := plate.Depths(f)
		wantNone(t, "Depths", i, p, e)
		p, e = plate.Normals(f)
		wantNone(t, "Normals", i, p, e)
		p, e = plate.Show(f.Sheet)
		if i < len(ofSheet) {
			wantNone(t, "Show", i, p, e)
		} else if e != api.OK || len(p.Dots) != 6 {
			t.Errorf("Show %d: %v, %d", i, p, e)
		}
	}
}

// R3: what is handed in stays as it is and isn't kept; no two answers share any memory.
func TestNewMemory(t *testing.T) {
	d := draw(12)
	f := d.film(film.Size{Width: 5, Height: 3})
	g := f
	g.Light, g.Depth, g.Normal = slices.Clone(f.Light), slices.Clone(f.Depth), slices.Clone(f.Normal)
	g.Base, g.Shape, g.Flow = slices.Clone(f.Base), slices.Clone(f.Shape), slices.Clone(f.Flow)
	for i, show := range []func() plate.Picture{
		func() plate.Picture { p, _ := plate.Show(f.Sheet); return p },
		func() plate.Picture { p, _ := plate.Depths(f); return p },
		func() plate.Picture { p, _ := plate.Normals(f); return p },
	} {
		p, q := show(), show()
		dots := slices.Clone(p.Dots)
		clear(q.Dots[:cap(q.Dots)])
		if !reflect.DeepEqual(f, g) || !slices.Equal(p.Dots, dots) {
			t.Errorf("the picture %d: the film is now %v, the dots %v", i, f, p.Dots)
		}
	}
}
