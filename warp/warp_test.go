package warp_test

import (
	"math"
	"reflect"
	"slices"
	"testing"

	"zoetrope/api"
	"zoetrope/film"
	"zoetrope/hue"
	"zoetrope/vec"
	"zoetrope/warp"
)

// The calls and constants, as the chapter tells them.
var (
	_ func(now, was film.Film, light film.Sheet) (film.Sheet, api.Errno) = warp.Blend
	_ func(now film.Film) (film.Sheet, api.Errno)                        = warp.Alone
	_ func(now, was film.Film) int                                       = warp.Kept
	_ [57344]int                                                         = [warp.Close]int{}
	_ [32768]int                                                         = [warp.Keep]int{}
	_ api.Fix                                                            = warp.Close
	_ api.Fix                                                            = warp.Keep
)

const (
	one  = api.One
	most = api.Most
)

// v is a point of three numbers, in units.
func v(x, y, z api.Fix) api.Vec { return api.Vec{X: x, Y: y, Z: z} }

// h is a light of three kinds, in units.
func h(r, g, b api.Fix) hue.Hue { return hue.Hue{R: r, G: g, B: b} }

// draw is a list of numbers without any order in them, the same ones in every run.
type draw uint64

// below is the next of them, from 0 on, below n.
func (d *draw) below(n int) int {
	*d = *d*6364136223846793005 + 1442695040888963407
	return int(uint64(*d) >> 32 % uint64(n))
}

// between is the next of them, from one end to the other.
func (d *draw) between(from, to api.Fix) api.Fix { return from + api.Fix(d.below(int(to-from+1))) }

// number is a number of any size, often one at the span's ends, beyond them, or about zero.
func (d *draw) number() api.Fix {
	near := []api.Fix{math.MinInt64, -most - 1, -most, -most + 1, -one, -1, 0, 1, 255, one, 1<<31 - 1, most, most + 1, math.MaxInt64}
	if d.below(3) == 0 {
		return near[d.below(len(near))]
	}
	return d.between(-1<<d.below(32), 1<<d.below(32))
}

// normal is a direction about One long, and often close to others.
func (d *draw) normal() api.Vec {
	l := []api.Vec{v(0, 57344, 0), v(0, 57343, 1), v(one, -1, 0), v(-5, 57345, 9), v(0, -one, 0), v(46341, 46341, 0), v(30000, 58266, 0), v(0, 0, 0), v(d.number(), d.number(), d.number())}
	if d.below(2) == 0 {
		return v(0, one, 0)
	}
	return l[d.below(len(l))]
}

// lights are so many lights.
func (d *draw) lights(many int) []hue.Hue {
	var l []hue.Hue
	for range many {
		l = append(l, h(d.number(), d.number(), d.number()))
	}
	return l
}

// sheet is a sheet of a size.
func (d *draw) sheet(s film.Size) film.Sheet {
	return film.Sheet{Size: s, Light: d.lights(s.Width * s.Height)}
}

// film is a film of a size, whose pixels show one of few shapes.
func (d *draw) film(s film.Size) film.Film {
	n := s.Width * s.Height
	f := film.Film{Sheet: d.sheet(s), Base: d.lights(n)}
	for range n {
		f.Depth = append(f.Depth, d.number())
		f.Normal = append(f.Normal, d.normal())
		f.Shape = append(f.Shape, []int{-1, 0, 0, 127}[d.below(4)])
		f.Flow = append(f.Flow, []int{-1, 0, d.below(n), d.below(n), n - 1}[d.below(5)])
	}
	return f
}

// size is a size of not so many pixels.
func (d *draw) size() film.Size {
	return []film.Size{{Width: 1, Height: 1}, {Width: 64, Height: 1}, {Width: 1, Height: 64}, {Width: 1 + d.below(9), Height: 1 + d.below(9)}, {Width: 1 + d.below(9), Height: 1 + d.below(9)}}[d.below(5)]
}

// pixel is a film of one pixel.
func pixel(l hue.Hue, normal api.Vec, shape, flow int) film.Film {
	return film.Film{Sheet: film.Sheet{Size: film.Size{Width: 1, Height: 1}, Light: []hue.Hue{l}}, Depth: []api.Fix{0}, Normal: []api.Vec{normal}, Base: []hue.Hue{{}}, Shape: []int{shape}, Flow: []int{flow}}
}

// row is a film of some pixels side by side, all with one normal, that show these shapes, with these flows; its lights are gray, 100 and more.
func row(shapes, flows []int) film.Film {
	n := len(shapes)
	f := film.Film{Sheet: film.Sheet{Size: film.Size{Width: n, Height: 1}}, Depth: make([]api.Fix, n), Normal: slices.Repeat([]api.Vec{v(0, one, 0)}, n), Base: make([]hue.Hue, n), Shape: shapes, Flow: flows}
	for i := range n {
		f.Light = append(f.Light, hue.Gray(api.Fix(100+i)))
	}
	return f
}

// past is a pixel's past by the chapter's words; -1, if it has none.
func past(now, was film.Film, i int) int {
	for p := range was.Shape {
		if now.Flow[i] == p && now.Shape[i] == was.Shape[p] && vec.Dot(now.Normal[i], was.Normal[p]) >= 57344 {
			return p
		}
	}
	return -1
}

// between says whether a number lies between two others, all taken as layer 1 takes them.
func between(n, a, b api.Fix) bool {
	a, b = min(max(a, -most), most), min(max(b, -most), most)
	return min(a, b) <= n && n <= max(a, b)
}

// wantBlend holds a frame to be mixed by the chapter's words, and each light to lie between the two that it is mixed of; it tells how many have a past.
func wantBlend(t *testing.T, now, was film.Film, light film.Sheet) int {
	t.Helper()
	got, e := warp.Blend(now, was, light)
	if e != api.OK || got.Size != now.Size || len(got.Light) != len(now.Light) {
		t.Fatalf("%v, %v, %v: %v, %d", now, was, light, got, e)
	}
	many := 0
	for i, a := range now.Light {
		p := past(now, was, i)
		if p < 0 {
			if got.Light[i] != a {
				t.Fatalf("%v, %v: the pixel %d is %v, not as it was", now, was, i, got.Light[i])
			}
			continue
		}
		many++
		b := light.Light[p]
		if want := hue.Mix(a, b, one/2); got.Light[i] != want {
			t.Fatalf("%v, %v: the pixel %d is %v, not %v", now, was, i, got.Light[i], want)
		}
		if l := got.Light[i]; !between(l.R, a.R, b.R) || !between(l.G, a.G, b.G) || !between(l.B, a.B, b.B) {
			t.Fatalf("%v isn't between %v and %v", l, a, b)
		}
	}
	if n := warp.Kept(now, was); n != many {
		t.Fatalf("%v, %v: %d pixels have a past, not %d", now, was, n, many)
	}
	return many
}

// P19.1: the chapter's example: without flows a film is as it was, whatever was ahead.
func TestNoFlow(t *testing.T) {
	d := draw(1)
	for range 50 {
		now, was := d.film(d.size()), d.film(d.size())
		for i := range now.Flow {
			now.Flow[i] = -1
		}
		got, e := warp.Blend(now, was, d.sheet(was.Size))
		if e != api.OK || !reflect.DeepEqual(got, now.Sheet) || warp.Kept(now, was) != 0 {
			t.Fatalf("%v, %v: %v, %d", now, was, got, e)
		}
	}
}

// P19.1, P19.3: half of the film's light and half of the sheet's, rounded down, not the light of the film ahead.
func TestHalves(t *testing.T) {
	const least, greatest = math.MinInt64, math.MaxInt64
	rows := []struct{ now, light, want api.Fix }{
		{8, 4, 6}, {4, 8, 6}, {1, 2, 1}, {2, 1, 1}, {0, 1, 0}, {1, 0, 0}, {0, -1, -1}, {-1, 0, -1}, {-1, -2, -2}, {-2, -1, -2}, {0, 0, 0}, {one, 0, one / 2}, {0, 16 * one, 8 * one},
		{3, 10, 6}, {10, 3, 6}, {-3, -10, -7}, {-3, 10, 3}, {3, -10, -4}, {most, most, most}, {-most, -most, -most}, {most, -most, 0}, {-most, most, 0}, {most, most - 1, most - 1}, {most - 1, most, most - 1},
		{most + 1, most, most}, {greatest, greatest, most}, {least, least, -most}, {greatest, least, 0}, {least, greatest, 0}, {greatest, 0, 1 << 30}, {0, least, -1 << 30},
	}
	for i, x := range rows {
		y := rows[(i+1)%len(rows)]
		now, was := pixel(h(x.now, y.now, 7), v(0, one, 0), 3, 0), pixel(h(99, 98, 97), v(0, one, 0), 3, 0)
		light := film.Sheet{Size: was.Size, Light: []hue.Hue{h(x.light, y.light, 12)}}
		got, e := warp.Blend(now, was, light)
		if want := h(x.want, y.want, 9); e != api.OK || got.Size != now.Size || len(got.Light) != 1 || got.Light[0] != want {
			t.Errorf("%v, %v: %v, %d, not %v", now.Light, light.Light, got, e, want)
		}
	}
	// What has no past isn't even held.
	far := h(math.MinInt64, math.MaxInt64, most+1)
	if got, e := warp.Blend(pixel(far, v(0, one, 0), 3, -1), pixel(far, v(0, one, 0), 3, 0), film.Sheet{Size: film.Size{Width: 1, Height: 1}, Light: []hue.Hue{{}}}); e != api.OK || !slices.Equal(got.Light, []hue.Hue{far}) {
		t.Errorf("%v, %d", got, e)
	}
}

// wantKept holds one pixel to have a past or none, by Kept and by Blend.
func wantKept(t *testing.T, now, was film.Film, want bool) {
	t.Helper()
	now.Light, was.Light = []hue.Hue{h(10, 20, 30)}, []hue.Hue{h(20, 40, 60)}
	many, light := 0, h(10, 20, 30)
	if want {
		many, light = 1, h(15, 30, 45)
	}
	if n := warp.Kept(now, was); n != many {
		t.Errorf("%v, %v: %d pixels have a past", now, was, n)
	}
	if got, e := warp.Blend(now, was, was.Sheet); e != api.OK || !slices.Equal(got.Light, []hue.Hue{light}) {
		t.Errorf("%v, %v: %v, %d", now, was, got, e)
	}
}

// P19.1, P19.2: the normals' Dot isn't below Close: at it, and one unit below.
func TestNormals(t *testing.T) {
	const least, greatest = math.MinInt64, math.MaxInt64
	rows := []struct {
		a, b api.Vec
		want bool
	}{
		{v(0, one, 0), v(0, one, 0), true}, {v(0, one, 0), v(0, 57344, 0), true}, {v(0, one, 0), v(0, 57343, 0), false}, {v(one, 0, 0), v(57344, 900, 0), true}, {v(0, 0, one), v(0, 900, 57343), false},
		{v(0, -one, 0), v(0, -one, 0), true}, {v(0, -one, 0), v(0, one, 0), false}, {v(0, one, 0), v(one, 0, 0), false}, {v(0, 0, -57344), v(0, 0, -one), true}, {v(0, 0, 57344), v(0, 0, -one), false},
		{v(0, 0, 0), v(0, 0, 0), false}, {v(0, 0, 0), v(0, one, 0), false}, {v(0, one, 0), v(0, 0, 0), false},
		{v(46341, 46341, 0), v(46341, 46341, 0), true}, {v(0, one, 0), v(32768, 56756, 0), false}, {v(0, one, 0), v(30000, 58266, 0), true},
		// Each product is rounded down by itself.
		{v(one, -1, 0), v(57344, 1, 0), false}, {v(one, -1, 0), v(57345, 1, 0), true}, {v(one, -1, -1), v(57345, 1, 1), false}, {v(one, 1, 1), v(57344, one-1, one-1), true}, {v(one, 1, 1), v(57343, one-1, one-1), false}, {v(one, 1, 1), v(57342, one, one), true},
		// Directions that aren't One long; sums held behind each axis; numbers beyond the span.
		{v(2*one, 0, 0), v(28672, 0, 0), true}, {v(2*one, 0, 0), v(28671, 0, 0), false}, {v(most, most, most), v(most, most, most), true}, {v(most, most, 0), v(most, -most, 0), false},
		{v(most, most, most), v(most, most, -most), false}, {v(most, most, most), v(most, -most, most), true}, {v(greatest, 0, 0), v(greatest, 0, 0), true}, {v(least, 0, 0), v(least, 0, 0), true}, {v(least, 0, 0), v(greatest, 0, 0), false}, {v(greatest, 0, 0), v(1, 0, 0), false}, {v(greatest, 0, 0), v(2, 0, 0), true},
	}
	for _, x := range rows {
		wantKept(t, pixel(hue.Hue{}, x.a, 5, 0), pixel(hue.Hue{}, x.b, 5, -1), x.want)
		wantKept(t, pixel(hue.Hue{}, x.b, 5, 0), pixel(hue.Hue{}, x.a, 5, 0), x.want)
	}
}

// P19.1, P19.2: the same shape, and a flow; what flows the frame ahead had, and how deep it was, doesn't matter.
func TestShapes(t *testing.T) {
	up := v(0, one, 0)
	for _, a := range []int{-1, 0, 1, 2, 63, 126, 127} {
		for _, b := range []int{-1, 0, 1, 2, 63, 126, 127} {
			for _, flow := range []int{-1, 0} {
				for _, ahead := range []int{-1, 0} {
					now, was := pixel(hue.Hue{}, up, a, flow), pixel(hue.Hue{}, up, b, ahead)
					now.Depth[0], was.Base[0] = most, h(1, 2, 3)
					wantKept(t, now, was, flow == 0 && a == b)
				}
			}
		}
	}
}

// P19.1, P19.2: the past is the pixel of the flow's number, neither that at the same place nor that of the other film's flow.
func TestFlows(t *testing.T) {
	now := row([]int{0, 1, 2, 0, -1, 3}, []int{3, 3, 2, 0, 1, 5})
	was := row([]int{0, 2, 2, 0, 1, 3}, []int{5, 4, 3, 2, 1, 0})
	light := film.Sheet{Size: was.Size}
	for _, n := range []api.Fix{0, 20, 40, 60, 80, 200} {
		light.Light = append(light.Light, h(n, 2*n, 0))
	}
	want := []hue.Hue{h(80, 110, 50), hue.Gray(101), h(71, 91, 51), h(51, 51, 51), hue.Gray(104), h(152, 252, 52)}
	got, e := warp.Blend(now, was, light)
	if e != api.OK || got.Size != now.Size || !slices.Equal(got.Light, want) || warp.Kept(now, was) != 4 {
		t.Errorf("%v, %d, not %v; %d", got, e, want, warp.Kept(now, was))
	}
}

// P19.1, P19.2: a frame ahead of another size: pixels by their numbers; those that it hasn't are none.
func TestOtherSize(t *testing.T) {
	now := row([]int{0, 0, 0, 0, 0, 0}, []int{0, 1, 2, 3, 4, 5})
	now.Size = film.Size{Width: 3, Height: 2}
	for n := 1; n <= 9; n++ {
		for _, size := range []film.Size{{Width: n, Height: 1}, {Width: 1, Height: n}} {
			was := row(make([]int, n), slices.Repeat([]int{-1}, n))
			was.Size = size
			light := film.Sheet{Size: size, Light: slices.Repeat([]hue.Hue{h(0, 100, 200)}, n)}
			for i := range light.Light {
				light.Light[i].R = api.Fix(1000 * i)
			}
			if many := wantBlend(t, now, was, light); many != min(n, 6) {
				t.Errorf("%v: %d pixels have a past", size, many)
			}
		}
	}
}

// P19.1 to P19.3: drawn films of all sizes, by the chapter's words.
func TestDrawn(t *testing.T) {
	d := draw(2)
	many, all := 0, 0
	for i := range 1500 {
		s := d.size()
		now, was := d.film(s), d.film(s)
		if i%5 == 0 {
			was = d.film(d.size())
		}
		many += wantBlend(t, now, was, d.sheet(was.Size))
		all += len(now.Light)
	}
	if many < all/20 || many > all/2 {
		t.Errorf("%d of %d pixels have a past: this shows too little", many, all)
	}
}

// P19.1: the largest pictures.
func TestLargest(t *testing.T) {
	d := draw(3)
	s := film.Size{Width: 64, Height: 64}
	now, was := d.film(s), d.film(s)
	if wantBlend(t, now, was, d.sheet(s)) == 0 {
		t.Error("no pixel has a past")
	}
	now = row(make([]int, 4096), make([]int, 4096))
	now.Size = s
	for i := range now.Flow {
		now.Flow[i] = 4095 - i
	}
	if got := wantBlend(t, now, now, d.sheet(s)); got != 4096 {
		t.Errorf("%d pixels have a past", got)
	}
}

// P19.1: a film's sheet, whatever it flows to.
func TestAlone(t *testing.T) {
	d := draw(4)
	for range 100 {
		f := d.film(d.size())
		if got, e := warp.Alone(f); e != api.OK || !reflect.DeepEqual(got, f.Sheet) {
			t.Fatalf("%v: %v, %d", f, got, e)
		}
	}
}
