package lace_test

import (
	"math"
	"slices"
	"testing"

	"zoetrope/api"
	"zoetrope/film"
	"zoetrope/fix"
	"zoetrope/hue"
	"zoetrope/lace"
	"zoetrope/vec"
)

// The calls and the constant, as the chapter tells them.
var (
	_ func(f film.Film, s film.Sheet, level int) (film.Sheet, api.Errno) = lace.Level
	_ func(f film.Film, s film.Sheet) (film.Sheet, api.Errno)            = lace.Smooth
	_ [5]int                                                             = [lace.Levels]int{}
)

const (
	one  = api.One
	most = api.Most
)

// v is a point of three numbers, in units.
func v(x, y, z api.Fix) api.Vec { return api.Vec{X: x, Y: y, Z: z} }

// h is a light of three kinds, in units.
func h(r, g, b api.Fix) hue.Hue { return hue.Hue{R: r, G: g, B: b} }

// draw is a list of numbers without any order in them, the same ones in every run.
type draw uint64

// below is the next of them, from 0 on, below n.
func (d *draw) below(n int) int {
	*d = *d*6364136223846793005 + 1442695040888963407
	return int(uint64(*d) >> 32 % uint64(n))
}

// between is the next of them, from one end to the other.
func (d *draw) between(from, to api.Fix) api.Fix { return from + api.Fix(d.below(int(to-from+1))) }

// number is a number of any size, often one at the span's ends, beyond them, or about zero.
func (d *draw) number() api.Fix {
	near := []api.Fix{math.MinInt64, -most - 1, -most, -most + 1, -one, -1, 0, 1, 255, one, 1<<31 - 1, most, most + 1, math.MaxInt64}
	if d.below(3) == 0 {
		return near[d.below(len(near))]
	}
	return d.between(-1<<d.below(32), 1<<d.below(32))
}

// film is a film of a size, of a few surfaces that aren't far from one another. Another program draws the very same ones.
func (d *draw) film(s film.Size) film.Film {
	f := film.Film{Sheet: film.Sheet{Size: s}}
	for range s.Width * s.Height {
		shape := []int{-1, 0, 0, 1, d.below(128)}
		n := []api.Vec{v(0, one, 0), v(0, 52429, -39322), v(0, 46341, 46341), v(0, 39322, 52429)}
		f.Shape = append(f.Shape, shape[d.below(5)])
		normal := n[d.below(4)]
		normal.X += d.between(-9000, 9000)
		normal.Y += d.between(-9000, 9000)
		normal.Z += d.between(-9000, 9000)
		depth := 3*one + d.between(-one/8, one/8)
		if f.Shape[len(f.Shape)-1] < 0 {
			normal, depth = v(0, 0, 0), most
		}
		light := h(d.between(-100, one/4), d.between(-100, one/4), d.between(-100, one/4))
		if d.below(9) == 0 {
			light.R, light.B = 16*one, one
		}
		f.Normal, f.Depth, f.Light = append(f.Normal, normal), append(f.Depth, depth), append(f.Light, light)
	}
	f.Base, f.Flow = make([]hue.Hue, len(f.Light)), slices.Repeat([]int{-1}, len(f.Light))
	return f
}

// wild is a film of a size, of numbers of any size.
func (d *draw) wild(s film.Size) film.Film {
	f := d.film(s)
	for i := range f.Light {
		if d.below(2) == 0 {
			f.Light[i] = h(d.number(), d.number(), d.number())
		}
		switch d.below(6) {
		case 0:
			f.Normal[i] = v(d.number(), d.number(), d.number())
		case 1:
			f.Depth[i] = d.number()
		case 2:
			f.Base[i] = h(d.number(), d.number(), d.number())
		}
	}
	return f
}

// size is a size of not so many pixels.
func (d *draw) size() film.Size {
	return []film.Size{{Width: 1, Height: 1}, {Width: 64, Height: 1}, {Width: 1, Height: 64}, {Width: 1 + d.below(12), Height: 1 + d.below(12)}, {Width: 1 + d.below(12), Height: 1 + d.below(12)}}[d.below(5)]
}

// skyOf is a film on which no shape is seen, of some lights.
func skyOf(s film.Size, lights ...hue.Hue) film.Film {
	n := s.Width * s.Height
	return film.Film{
		Sheet: film.Sheet{Size: s, Light: lights}, Depth: slices.Repeat([]api.Fix{most}, n), Normal: make([]api.Vec, n), Base: make([]hue.Hue, n),
		Shape: slices.Repeat([]int{-1}, n), Flow: slices.Repeat([]int{-1}, n),
	}
}

// wallOf is a film on which one flat shape is seen, all at one depth, of some lights.
func wallOf(s film.Size, lights ...hue.Hue) film.Film {
	f := skyOf(s, lights...)
	for i := range f.Shape {
		f.Shape[i], f.Depth[i], f.Normal[i] = 0, one, v(0, 0, -one)
	}
	return f
}

// alike is how alike two pixels of a film are, by the chapter's words.
func alike(f film.Film, a, b int) api.Fix {
	if f.Shape[a] == -1 && f.Shape[b] == -1 {
		return one
	}
	if f.Shape[a] == -1 || f.Shape[b] == -1 {
		return 0
	}
	depths := fix.Abs(fix.Sub(f.Depth[a], f.Depth[b]))
	return fix.Mul(fix.Unit(vec.Dot(f.Normal[a], f.Normal[b])), fix.Div(one, fix.Sum(one, fix.Mul(4*one, depths))))
}

// weight is what a pixel counts, so many steps aside and up or down from another one, by the chapter's words.
func weight(f film.Film, s film.Sheet, level, a, b, aside, down int) api.Fix {
	count := func(steps int) int {
		switch steps {
		case 0:
			return 6
		case 1, -1:
			return 4
		}
		return 1
	}
	w := one
	if a != b {
		twice := api.Fix(2*math.Pow(2, float64(level))) * one
		w = fix.Mul(alike(f, a, b), fix.Div(one, fix.Sum(one, fix.Mul(twice, hue.Diff(s.Light[a], s.Light[b])))))
	}
	return fix.Mul(fix.Of(count(aside)*count(down)), w)
}

// smoothed is a sheet at a level by the chapter's words: of each pixel all pixels of the picture are looked at, whether they are so many steps away.
func smoothed(f film.Film, s film.Sheet, level int) film.Sheet {
	out := film.Sheet{Size: s.Size}
	step := []int{1, 2, 4, 8, 16}[level]
	near := func(n int) bool { return n%step == 0 && n >= -2*step && n <= 2*step }
	for a := range s.Light {
		var light hue.Hue
		var all api.Fix
		for b := range s.Light {
			aside, down := b%s.Width-a%s.Width, b/s.Width-a/s.Width
			if near(aside) && near(down) {
				w := weight(f, s, level, a, b, aside/step, down/step)
				light = hue.Sum(light, hue.Scale(s.Light[b], w))
				all = fix.Sum(all, w)
			}
		}
		out.Light = append(out.Light, h(fix.Div(light.R, all), fix.Div(light.G, all), fix.Div(light.B, all)))
	}
	return out
}

// wantLevel holds a sheet to be smoothed to some lights.
func wantLevel(t *testing.T, f film.Film, s film.Sheet, level int, want []hue.Hue) {
	t.Helper()
	got, e := lace.Level(f, s, level)
	if e != api.OK || got.Size != s.Size || !slices.Equal(got.Light, want) {
		t.Fatalf("the level %d of %v, %v: %v, %d, not %v", level, f, s, got, e, want)
	}
}

// wantSmooth holds a sheet to be smoothed to some lights at all levels.
func wantSmooth(t *testing.T, f film.Film, s film.Sheet, want []hue.Hue) {
	t.Helper()
	got, e := lace.Smooth(f, s)
	if e != api.OK || got.Size != s.Size || !slices.Equal(got.Light, want) {
		t.Fatalf("%v, %v: %v, %d, not %v", f, s, got, e, want)
	}
}

// P20.1: the chapter's example: one pixel stays, whether or not a shape is seen there.
func TestOnePixel(t *testing.T) {
	s := film.Size{Width: 1, Height: 1}
	for _, l := range []hue.Hue{h(one, one, one), {}, h(1, 2, 3), h(-1, -one, -7), h(16*one, 100*one, one-1)} {
		for _, f := range []film.Film{skyOf(s, l), wallOf(s, l)} {
			f.Normal[0], f.Depth[0] = v(1, -2, 3), -7
			for level := range 5 {
				wantLevel(t, f, f.Sheet, level, []hue.Hue{l})
			}
			wantSmooth(t, f, f.Sheet, []hue.Hue{l})
		}
	}
}

// P20.1: sky, as another program reckons it: lights that are apart count less, at each level by a half; neighbours count that are so many steps away.
func TestSkies(t *testing.T) {
	wide, high := film.Size{Width: 2, Height: 1}, film.Size{Width: 1, Height: 2}
	black := []hue.Hue{{}, h(one, 0, 0)}
	for _, s := range []film.Size{wide, high} {
		f := skyOf(s, black...)
		wantLevel(t, f, f.Sheet, 0, []hue.Hue{h(11915, 0, 0), h(53620, 0, 0)})
		for level := 1; level < 5; level++ {
			wantLevel(t, f, f.Sheet, level, black)
		}
		wantSmooth(t, f, f.Sheet, []hue.Hue{h(11915, 0, 0), h(53620, 0, 0)})
	}
	f := skyOf(film.Size{Width: 3, Height: 1}, h(one, one/2, 0), h(one, one/2, 0), h(one/4, 3*one, 7))
	f.Light[0] = hue.Hue{}
	wantLevel(t, f, f.Sheet, 0, []hue.Hue{h(9493, 8268, 0), h(53357, 40016, 0), h(19988, 179570, 6)})
	wantLevel(t, f, f.Sheet, 1, []hue.Hue{h(744, 8936, 0), h(one, one/2, 0), h(15639, 187671, 6)})
	wantLevel(t, f, f.Sheet, 2, f.Light)
	wantSmooth(t, f, f.Sheet, []hue.Hue{h(10041, 17214, 0), h(53357, 40016, 0), h(19439, 170623, 5)})
}

// surfaces is a film of nine pixels: shapes that are like one another, or lie on other sides, at other depths, and sky.
func surfaces() film.Film {
	return film.Film{
		Sheet: film.Sheet{Size: film.Size{Width: 3, Height: 3}, Light: []hue.Hue{
			h(one, one/2, one/4), h(one/2, one/2, one/2), h(60000, 40000, 20000), h(30000, 20000, 10000), h(40000, 42000, 8000), h(50001, 20002, 30003), h(33000, 21000, 9000), h(1, 2, 3), h(55000, -200, 20000),
		}},
		Depth: []api.Fix{one, one + one/4, one + 1000, most, one - 3000, one - 20, most, one, one + 2001},
		Normal: []api.Vec{
			v(0, one, 0), v(0, 65000, 8000), v(0, 63000, -18000), v(0, 0, 0), v(0, one, 0), v(46341, 46341, 0), v(0, 0, 0), v(0, -one, 0), v(3, 65000, 8000),
		},
		Base: make([]hue.Hue, 9), Shape: []int{0, 0, 1, -1, 0, 127, -1, 3, 3}, Flow: slices.Repeat([]int{-1}, 9),
	}
}

// P20.1: surfaces and sky, as another program reckons them.
func TestSurfaces(t *testing.T) {
	f := surfaces()
	wantLevel(t, f, f.Sheet, 0, []hue.Hue{
		h(58817, 33777, 17548), h(39867, 33134, 27675), h(54813, 35392, 20719), h(31099, 20366, 9633), h(45612, 35639, 14566), h(50369, 22741, 25475), h(31900, 20633, 9366), h(1, 2, 3), h(53107, 8404, 20652),
	})
	wantLevel(t, f, f.Sheet, 1, []hue.Hue{
		h(63583, 31943, 17423), h(32768, 32768, 32768), h(60620, 34254, 19249), h(30000, 20000, 10000), h(40000, 42000, 8000), h(50001, 20002, 30003), h(33000, 21000, 9000), h(1, 2, 3), h(56463, 7386, 19708),
	})
	for level := 2; level < 5; level++ {
		wantLevel(t, f, f.Sheet, level, f.Light)
	}
	wantSmooth(t, f, f.Sheet, []hue.Hue{
		h(57303, 32070, 18627), h(39867, 33134, 27675), h(55571, 31464, 19932), h(31099, 20366, 9633), h(45612, 35639, 14566), h(50369, 22741, 25475), h(31900, 20633, 9366), h(1, 2, 3), h(53918, 15052, 20367),
	})
}

// checked is all numbers of some lights in one.
func checked(l []hue.Hue) uint64 {
	var n uint64
	for _, a := range l {
		for _, x := range []api.Fix{a.R, a.G, a.B} {
			n = n*1099511628211 + uint64(x)
		}
	}
	return n
}

// P20.1: drawn films, as another program reckons them, at each level, and at all.
func TestReckoned(t *testing.T) {
	rows := []struct {
		size film.Size
		want [6]uint64
	}{
		{film.Size{Width: 1, Height: 1}, [...]uint64{0x2cca2000262793db, 0x2cca2000262793db, 0x2cca2000262793db, 0x2cca2000262793db, 0x2cca2000262793db, 0x2cca2000262793db}},
		{film.Size{Width: 4, Height: 4}, [...]uint64{0x82c9b9ca939942e1, 0x2d5b7f0747e40ffa, 0xa6dba7624a19a833, 0xa6dba7624a19a833, 0xa6dba7624a19a833, 0xa76492e42fba9866}},
		{film.Size{Width: 9, Height: 7}, [...]uint64{0x723d6ba21867d257, 0xdb3e2244132a9557, 0x1e0bf3052b30a86d, 0x596b1b70c8f17091, 0xb5e3a7d0d34f7a54, 0xc41de398009f94e2}},
		{film.Size{Width: 3, Height: 20}, [...]uint64{0x8332d0ce560eb9fb, 0xce6c43caeea08bb4, 0x5e3c950860d7d122, 0xeb28876fda31fc76, 0x1c6d80149f9ed4db, 0x5e6b3287ea5285e2}},
		{film.Size{Width: 64, Height: 2}, [...]uint64{0x1ae644d7c347b381, 0x8afe2eda7db24fd3, 0x70e3d1628a1dc49d, 0x3b21bb965516f45e, 0xb48520b66422b196, 0x89162862eb61e1fa}},
		{film.Size{Width: 2, Height: 64}, [...]uint64{0x3316560117406fd3, 0x7bf8c36bd883beb0, 0x14001ca6ab8b9260, 0x8d1c375623092d61, 0xb13c29dcaf104cb1, 0xcb5fc5440d168236}},
		{film.Size{Width: 40, Height: 40}, [...]uint64{0x3d9b40ed26cf3e93, 0x43eef2cfffa77c83, 0x43fd6e8a4522bc20, 0xf55564d4f43e85eb, 0x12dce91b297eff8a, 0x76f7d1b5f9973bf6}},
	}
	for i, x := range rows {
		d := draw(i + 1)
		f := d.film(x.size)
		for level := range 5 {
			if got, e := lace.Level(f, f.Sheet, level); e != api.OK || got.Size != x.size || checked(got.Light) != x.want[level] {
				t.Errorf("%v, the level %d: %#x, %d", x.size, level, checked(got.Light), e)
			}
		}
		if got, e := lace.Smooth(f, f.Sheet); e != api.OK || got.Size != x.size || checked(got.Light) != x.want[5] {
			t.Errorf("%v: %#x, %d", x.size, checked(got.Light), e)
		}
	}
}

// wantByWords holds a sheet to be smoothed by the chapter's words, at each level and at all.
func wantByWords(t *testing.T, f film.Film, s film.Sheet) {
	t.Helper()
	all := s
	for level := range 5 {
		wantLevel(t, f, s, level, smoothed(f, s, level).Light)
		all = smoothed(f, all, level)
	}
	wantSmooth(t, f, s, all.Light)
}

// P20.1, W1: drawn films, also of numbers beyond the span, whose sums are held, by the chapter's words; the sheet isn't the film's.
func TestDrawn(t *testing.T) {
	d := draw(20)
	for i := range 120 {
		s := d.size()
		f := d.film(s)
		if i%2 == 0 {
			f = d.wild(s)
		}
		wantByWords(t, f, f.Sheet)
		wantByWords(t, f, d.film(s).Sheet)
		wantByWords(t, f, d.wild(s).Sheet)
	}
}

// P20.1: the largest picture.
func TestLargest(t *testing.T) {
	d := draw(21)
	f := d.film(film.Size{Width: 64, Height: 64})
	wantByWords(t, f, f.Sheet)
}

// P20.1: numbers are held at the span's ends behind each pixel, row by row, from left to right.
func TestHeld(t *testing.T) {
	row := func(l ...api.Fix) film.Film {
		f := skyOf(film.Size{Width: len(l), Height: 1})
		for _, n := range l {
			f.Light = append(f.Light, hue.Gray(n))
		}
		return f
	}
	// 36 times as much is held, and shared by 36.
	for n, want := range map[api.Fix]api.Fix{
		59652323: 59652323, 59652324: 59652323, 910 * one: 59637760, 911 * one: 59652323, most: 59652323, most + 1: 59652323, math.MaxInt64: 59652323,
		-59652323: -59652323, -59652324: -59652324, -59652325: -59652324, -911 * one: -59652324, -most: -59652324, -most - 1: -59652324, math.MinInt64: -59652324,
	} {
		f := row(n)
		for level := range 5 {
			wantLevel(t, f, f.Sheet, level, []hue.Hue{hue.Gray(want)})
		}
	}
	// Two bright ones are held ahead of what is taken from them, or behind it: told by another program.
	for _, x := range []struct{ lights, want []api.Fix }{
		{[]api.Fix{900 * one, 900 * one, -most}, []api.Fix{35784731, 35764743, -59649307}}, {[]api.Fix{-most, 900 * one, 900 * one}, []api.Fix{-59649307, 35790957, 35791284}},
	} {
		f, want := row(x.lights...), row(x.want...).Light
		wantLevel(t, f, f.Sheet, 0, want)
		f.Width, f.Height = f.Height, f.Width
		wantLevel(t, f, f.Sheet, 0, want)
	}
}

// P20.1: a sheet is smoothed by its own lights, not by the film's, which don't count at all; nor do bases and flows.
func TestFilmsOwnLight(t *testing.T) {
	d := draw(22)
	for range 20 {
		s := d.size()
		f, g := d.film(s), d.film(s)
		sheet := d.film(s).Sheet
		want, _ := lace.Smooth(f, sheet)
		f.Light, f.Base, f.Flow = g.Light, g.Light, make([]int, len(f.Flow))
		wantSmooth(t, f, sheet, want.Light)
		for i, n := range f.Shape {
			if n >= 0 {
				f.Shape[i] = d.below(128)
			}
		}
		wantSmooth(t, f, sheet, want.Light)
	}
}

// P20.1: just that so many steps away counts, up to two, along both axes.
func TestHoles(t *testing.T) {
	s := film.Size{Width: 64, Height: 64}
	for _, at := range []int{0, 63, 64 * 63, 4095, 64*31 + 33, 64*5 + 60} {
		f := wallOf(s, slices.Repeat([]hue.Hue{{}}, 4096)...)
		f.Light[at] = h(2000, 3000, 4000)
		for level, step := range []int{1, 2, 4, 8, 16} {
			got, _ := lace.Level(f, f.Sheet, level)
			for i, l := range got.Light {
				aside, down := i%64-at%64, i/64-at/64
				near := aside%step == 0 && down%step == 0 && max(aside, -aside) <= 2*step && max(down, -down) <= 2*step
				if (l != hue.Hue{}) != near {
					t.Errorf("the level %d: a light at %d is %v at %d", level, at, l, i)
				}
			}
		}
	}
}

// P20.1: two pixels side by side, that count for one another by how alike they are: not at all across an edge.
func TestEdges(t *testing.T) {
	up := v(0, one, 0)
	rows := []struct {
		shapes  [2]int
		normals [2]api.Vec
		depths  [2]api.Fix
		alike   api.Fix
	}{
		{[2]int{-1, -1}, [2]api.Vec{}, [2]api.Fix{most, most}, one}, {[2]int{-1, -1}, [2]api.Vec{up, v(0, -one, 0)}, [2]api.Fix{-most, most}, one},
		{[2]int{-1, 0}, [2]api.Vec{up, up}, [2]api.Fix{one, one}, 0}, {[2]int{127, -1}, [2]api.Vec{up, up}, [2]api.Fix{one, one}, 0}, {[2]int{0, -1}, [2]api.Vec{up, up}, [2]api.Fix{one, one}, 0},
		{[2]int{0, 0}, [2]api.Vec{up, up}, [2]api.Fix{one, one}, one}, {[2]int{0, 127}, [2]api.Vec{up, up}, [2]api.Fix{one, one}, one}, {[2]int{4, 4}, [2]api.Vec{}, [2]api.Fix{one, one}, 0},
		{[2]int{4, 5}, [2]api.Vec{up, v(0, one/2, one)}, [2]api.Fix{one, one}, one / 2}, {[2]int{4, 4}, [2]api.Vec{up, v(one, 0, 0)}, [2]api.Fix{one, one}, 0}, {[2]int{4, 4}, [2]api.Vec{up, v(0, -one, 0)}, [2]api.Fix{one, one}, 0},
		{[2]int{4, 4}, [2]api.Vec{up, v(0, 9*one, 0)}, [2]api.Fix{one, one}, one}, {[2]int{4, 4}, [2]api.Vec{up, v(0, 1, 0)}, [2]api.Fix{one, one}, 1},
		{[2]int{4, 4}, [2]api.Vec{up, up}, [2]api.Fix{one, one + one/4}, one / 2}, {[2]int{4, 4}, [2]api.Vec{up, up}, [2]api.Fix{2 * one, one}, 13107}, {[2]int{4, 4}, [2]api.Vec{up, up}, [2]api.Fix{-one, 3*one + one/4}, 3640},
		{[2]int{4, 4}, [2]api.Vec{up, up}, [2]api.Fix{one, one + 1}, 65532}, {[2]int{4, 4}, [2]api.Vec{up, up}, [2]api.Fix{-most, most}, 2}, {[2]int{4, 4}, [2]api.Vec{up, up}, [2]api.Fix{math.MinInt64, -most}, one}, {[2]int{4, 4}, [2]api.Vec{up, v(0, one/2, 0)}, [2]api.Fix{most, 0}, 1}, {[2]int{4, 4}, [2]api.Vec{up, v(0, one/4, 0)}, [2]api.Fix{most, 0}, 0},
	}
	for _, x := range rows {
		f := skyOf(film.Size{Width: 2, Height: 1}, h(50000, 0, 0), hue.Hue{})
		copy(f.Shape, x.shapes[:])
		copy(f.Normal, x.normals[:])
		copy(f.Depth, x.depths[:])
		// The quotient of One by the sum of One and 2 times 50000 units.
		const light = 25945
		w := fix.Mul(24*one, fix.Mul(x.alike, light))
		want := []hue.Hue{h(fix.Div(50000*36, fix.Add(36*one, w)), 0, 0), h(fix.Div(fix.Mul(50000, w), fix.Add(36*one, w)), 0, 0)}
		wantLevel(t, f, f.Sheet, 0, want)
	}
}

// P20.2: a picture of one light stays, but for a unit less at each level, whatever is seen there.
func TestOneLight(t *testing.T) {
	d := draw(23)
	for i := range 60 {
		s := d.size()
		l := h(d.between(0, 16*one), d.between(0, 1000), []api.Fix{0, 1, 2, one - 1, one, one + 1, 16*one - 1, 16 * one}[i%8])
		f := d.film(s)
		if i%3 == 0 {
			f = wallOf(s, f.Light...)
		}
		f.Light = slices.Repeat([]hue.Hue{l}, len(f.Light))
		for level := range 5 {
			got, e := lace.Level(f, f.Sheet, level)
			wantStay(t, got, e, l, 1)
		}
		got, e := lace.Smooth(f, f.Sheet)
		wantStay(t, got, e, l, 5)
	}
}

// wantStay holds a picture to be of one light alone, but for so many units less.
func wantStay(t *testing.T, s film.Sheet, e api.Errno, l hue.Hue, less api.Fix) {
	t.Helper()
	lies := func(n, at api.Fix) bool { return n <= at && n >= at-less }
	if e != api.OK {
		t.Fatalf("%d", e)
	}
	for _, a := range s.Light {
		if !lies(a.R, l.R) || !lies(a.G, l.G) || !lies(a.B, l.B) {
			t.Fatalf("%v is %v", l, a)
		}
	}
}

// W6, P20.1: what is black stays black, whatever is seen there.
func TestBlack(t *testing.T) {
	d := draw(24)
	for range 30 {
		f := d.wild(d.size())
		f.Light = make([]hue.Hue, len(f.Light))
		wantSmooth(t, f, f.Sheet, f.Light)
		for level := range 5 {
			wantLevel(t, f, f.Sheet, level, f.Light)
		}
	}
}
