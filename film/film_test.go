package film_test

import (
	"math"
	"testing"

	"zoetrope/api"
	"zoetrope/film"
	"zoetrope/hue"
	"zoetrope/scene"
)

// The calls and types, as the chapter tells them.
var (
	_ func(film.Size) bool                               = film.Size.Right
	_ func(film.Size) int                                = film.Size.Pixels
	_ func(film.Sheet) bool                              = film.Sheet.Right
	_ func(film.Film) bool                               = film.Film.Right
	_ func(s scene.Scene, f int) (film.Film, api.Errno)  = film.Render
	_ func(film.Sheet) ([]byte, api.Errno)               = film.EncodeSheet
	_ func([]byte) (film.Sheet, api.Errno)               = film.DecodeSheet
	_ func(film.Film) ([]byte, api.Errno)                = film.Encode
	_ func([]byte) (film.Film, api.Errno)                = film.Decode
	_ struct{ Width, Height int }                        = film.Size{}
	_ func(film.Film) (film.Sheet, film.Size, []hue.Hue) = func(f film.Film) (film.Sheet, film.Size, []hue.Hue) { return f.Sheet, f.Size, f.Light }
	_ func(film.Film) (width, height, pixels int)        = func(f film.Film) (int, int, int) { return f.Width, f.Height, f.Pixels() }
	_ func(film.Sheet) (width, height, pixels int)       = func(s film.Sheet) (int, int, int) { return s.Width, s.Height, s.Pixels() }
)

const (
	one  = api.One
	most = api.Most
)

// v is a point of three numbers, in units.
func v(x, y, z api.Fix) api.Vec { return api.Vec{X: x, Y: y, Z: z} }

// ones is a point of three whole numbers.
func ones(x, y, z api.Fix) api.Vec { return v(x*one, y*one, z*one) }

// h is a light of three kinds, in units.
func h(r, g, b api.Fix) hue.Hue { return hue.Hue{R: r, G: g, B: b} }

// draw is a list of numbers without any order in them, the same ones in every run.
type draw uint64

// below is the next of them, from 0 on, below n.
func (d *draw) below(n int) int {
	*d = *d*6364136223846793005 + 1442695040888963407
	return int(uint64(*d) >> 32 % uint64(n))
}

// between is the next of them, from one end to the other.
func (d *draw) between(from, to api.Fix) api.Fix { return from + api.Fix(d.below(int(to-from+1))) }

// point is a point of the next of them.
func (d *draw) point(far api.Fix) api.Vec {
	return v(d.between(-far, far), d.between(-far, far), d.between(-far, far))
}

// light is a light of the next of them.
func (d *draw) light(from, to api.Fix) hue.Hue {
	return h(d.between(from, to), d.between(from, to), d.between(from, to))
}

// number is a number of the span, often one at its ends or about zero.
func (d *draw) number() api.Fix {
	near := []api.Fix{-most, -most + 1, -one, -1, 0, 1, 255, 256, one, 1<<31 - 1, most}
	if d.below(2) == 0 {
		return near[d.below(len(near))]
	}
	return d.between(-most, -1) + d.between(0, most)
}

// sheet is a sheet of a size.
func (d *draw) sheet(s film.Size) film.Sheet {
	f := film.Sheet{Size: s}
	for range s.Width * s.Height {
		f.Light = append(f.Light, h(d.number(), d.number(), d.number()))
	}
	return f
}

// film is a film of a size.
func (d *draw) film(s film.Size) film.Film {
	f := film.Film{Sheet: d.sheet(s)}
	n := s.Width * s.Height
	for range n {
		f.Depth = append(f.Depth, d.number())
		f.Normal = append(f.Normal, v(d.number(), d.number(), d.number()))
		f.Base = append(f.Base, h(d.number(), d.number(), d.number()))
		f.Shape = append(f.Shape, []int{-1, 0, d.below(128), 127}[d.below(4)])
		f.Flow = append(f.Flow, []int{-1, 0, d.below(n), n - 1}[d.below(4)])
	}
	return f
}

// size is a size that may be, often a longest or shortest one.
func (d *draw) size() film.Size {
	side := func() int { return []int{1, 2, 1 + d.below(9), 1 + d.below(9), 64}[d.below(5)] }
	s := film.Size{Width: side(), Height: side()}
	if s.Width*s.Height > 256 {
		s.Height = 1
	}
	return s
}

// sides are numbers that sides could be, and most of them can't.
func sides() []int {
	return []int{math.MinInt, math.MinInt + 1, -1 << 32, -65, -64, -2, -1, 0, 1, 2, 3, 63, 64, 65, 128, 1 << 16, 1<<16 + 1, 1 << 32, 1<<32 + 1, math.MaxInt - 1, math.MaxInt}
}

// P18.1: sides from 1 to MaxSide.
func TestSizeRight(t *testing.T) {
	for _, x := range sides() {
		for _, y := range sides() {
			s := film.Size{Width: x, Height: y}
			if got, want := s.Right(), x >= 1 && x <= 64 && y >= 1 && y <= 64; got != want {
				t.Errorf("%v: %v", s, got)
			}
		}
	}
	for n := 1; n <= 64; n++ {
		if !(film.Size{Width: n, Height: 65 - n}).Right() {
			t.Errorf("%d, %d may not be", n, 65-n)
		}
	}
}

// P18.1: Width times Height, whether or not the size may be.
func TestPixels(t *testing.T) {
	rows := []struct{ width, height, want int }{
		{1, 1, 1}, {1, 64, 64}, {64, 1, 64}, {64, 64, 4096}, {3, 7, 21}, {7, 3, 21}, {0, 0, 0}, {0, 5, 0}, {5, 0, 0}, {65, 2, 130}, {2, 65, 130}, {100, 100, 10000},
		{-3, 5, -15}, {5, -3, -15}, {-3, -5, 15}, {0, math.MinInt, 0}, {math.MaxInt, 0, 0}, {1, math.MaxInt, math.MaxInt}, {math.MinInt, 1, math.MinInt}, {-1, math.MaxInt, -math.MaxInt},
	}
	for _, r := range rows {
		s := film.Size{Width: r.width, Height: r.height}
		if got := s.Pixels(); got != r.want {
			t.Errorf("%v: %d pixels, not %d", s, got, r.want)
		}
		if got := (film.Film{Sheet: film.Sheet{Size: s}}).Pixels(); got != r.want {
			t.Errorf("a film of %v: %d pixels, not %d", s, got, r.want)
		}
	}
}

// R6: no product goes round at an int's ends: it is there, or 0.
func TestPixelsBeyondAnInt(t *testing.T) {
	for _, p := range [][2]int{{math.MaxInt, 2}, {2, math.MaxInt}, {math.MinInt, -1}, {-1, math.MinInt}, {math.MinInt, math.MinInt}, {1 << 32, 1 << 32}, {1<<32 + 1, 1<<32 + 1}, {math.MaxInt, math.MaxInt}, {math.MinInt, 3}, {math.MaxInt, math.MinInt}} {
		if got := (film.Size{Width: p[0], Height: p[1]}).Pixels(); got != 0 {
			t.Errorf("%v: %d pixels", p, got)
		}
	}
}

// P18.1: a sheet has a size that may be, and just as many lights; which ones isn't looked at.
func TestSheetRight(t *testing.T) {
	for _, s := range []film.Size{{Width: 1, Height: 1}, {Width: 3, Height: 2}, {Width: 2, Height: 3}, {Width: 64, Height: 1}, {Width: 64, Height: 64}} {
		n := s.Width * s.Height
		for many, want := range map[int]bool{0: false, n - 1: false, n: true, n + 1: false, 2 * n: false} {
			x := film.Sheet{Size: s, Light: make([]hue.Hue, many)}
			if got := x.Right(); got != want {
				t.Errorf("%v, %d lights: %v", s, many, got)
			}
		}
	}
	wrong := []film.Sheet{
		{}, {Light: make([]hue.Hue, 1)}, {Size: film.Size{Width: 1}}, {Size: film.Size{Height: 4}}, {Size: film.Size{Width: 65, Height: 1}, Light: make([]hue.Hue, 65)},
		{Size: film.Size{Width: 1, Height: 65}, Light: make([]hue.Hue, 65)}, {Size: film.Size{Width: -1, Height: -4}, Light: make([]hue.Hue, 4)}, {Size: film.Size{Width: 1 << 32, Height: 1 << 32}},
		{Size: film.Size{Width: math.MinInt, Height: 2}}, {Size: film.Size{Width: math.MaxInt, Height: math.MaxInt}, Light: make([]hue.Hue, 1)},
	}
	for _, x := range wrong {
		if x.Right() {
			t.Errorf("%v may be", x)
		}
	}
	x := film.Sheet{Size: film.Size{Width: 2, Height: 1}, Light: []hue.Hue{h(math.MinInt64, math.MaxInt64, most+1), h(-most-1, 0, 17*one)}}
	if !x.Right() {
		t.Errorf("%v may not be", x)
	}
}

// P18.1: a film has just as many of each list as pixels.
func TestFilmRight(t *testing.T) {
	d := draw(1)
	for range 60 {
		s := d.size()
		f := d.film(s)
		if !f.Right() || !f.Sheet.Right() || !f.Size.Right() {
			t.Fatalf("%v may not be", f)
		}
		rows := []func(f *film.Film){
			func(f *film.Film) { f.Light = f.Light[1:] }, func(f *film.Film) { f.Light = append(f.Light, h(0, 0, 0)) }, func(f *film.Film) { f.Light = nil },
			func(f *film.Film) { f.Depth = f.Depth[1:] }, func(f *film.Film) { f.Depth = append(f.Depth, 0) }, func(f *film.Film) { f.Depth = nil },
			func(f *film.Film) { f.Normal = f.Normal[1:] }, func(f *film.Film) { f.Normal = append(f.Normal, v(0, 0, 0)) }, func(f *film.Film) { f.Normal = nil },
			func(f *film.Film) { f.Base = f.Base[1:] }, func(f *film.Film) { f.Base = append(f.Base, h(0, 0, 0)) }, func(f *film.Film) { f.Base = nil },
			func(f *film.Film) { f.Shape = f.Shape[1:] }, func(f *film.Film) { f.Shape = append(f.Shape, -1) }, func(f *film.Film) { f.Shape = nil },
			func(f *film.Film) { f.Flow = f.Flow[1:] }, func(f *film.Film) { f.Flow = append(f.Flow, -1) }, func(f *film.Film) { f.Flow = nil },
			func(f *film.Film) { f.Width++ }, func(f *film.Film) { f.Height-- }, func(f *film.Film) { f.Width, f.Height = -f.Width, -f.Height }, func(f *film.Film) { f.Size = film.Size{} },
			func(f *film.Film) { f.Sheet = film.Sheet{} },
		}
		for i, spoil := range rows {
			x := f
			spoil(&x)
			if x.Right() {
				t.Fatalf("%v may be, spoilt the %d. way", x, i)
			}
		}
	}
	if (film.Film{}).Right() {
		t.Error("a film without anything may be")
	}
}

// P18.1: a film of a size that may not be, with as many of all as it had pixels.
func TestFilmOfNoSize(t *testing.T) {
	d := draw(2)
	for _, s := range []film.Size{{Width: 65, Height: 1}, {Width: 1, Height: 65}, {Width: 65, Height: 65}, {Width: 128, Height: 2}} {
		if f := d.film(s); f.Right() {
			t.Errorf("a film of %v may be", s)
		}
	}
	f := d.film(film.Size{Width: 2, Height: 2})
	f.Width, f.Height = -2, -2
	if f.Right() {
		t.Errorf("a film of %v may be", f.Size)
	}
}

// P18.1: shapes from -1 to 127, flows from -1 up to the last pixel, at each place.
func TestShapesAndFlows(t *testing.T) {
	d := draw(3)
	for _, s := range []film.Size{{Width: 1, Height: 1}, {Width: 4, Height: 3}, {Width: 2, Height: 64}, {Width: 12, Height: 12}} {
		n := s.Width * s.Height
		for _, at := range []int{0, n / 2, n - 1} {
			for _, x := range []int{math.MinInt, -1 << 32, -1 << 16, -129, -128, -2, -1, 0, 1, 126, 127, 128, 129, n - 1, n, n + 1, 255, 4095, 4096, 1 << 15, 1 << 16, 1<<16 - 1, 1 << 32, math.MaxInt} {
				f := d.film(s)
				f.Shape[at] = x
				if got, want := f.Right(), x >= -1 && x <= 127; got != want {
					t.Errorf("%v with the shape %d: %v", s, x, got)
				}
				f = d.film(s)
				f.Flow[at] = x
				if got, want := f.Right(), x >= -1 && x < n; got != want {
					t.Errorf("%v with the flow %d: %v", s, x, got)
				}
			}
		}
	}
}

// P18.1: numbers beyond the span aren't looked at.
func TestFilmBeyondTheSpan(t *testing.T) {
	d := draw(4)
	f := d.film(film.Size{Width: 2, Height: 2})
	far := []api.Fix{math.MinInt64, -most - 1, most + 1, math.MaxInt64}
	for i, n := range far {
		f.Light[i], f.Depth[i], f.Normal[i], f.Base[i] = h(n, n, n), n, v(n, n, n), h(n, n, n)
	}
	if !f.Right() {
		t.Errorf("%v may not be", f)
	}
}
