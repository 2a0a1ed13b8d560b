package warp_test

import (
	"math"
	"reflect"
	"slices"
	"testing"

	"zoetrope/api"
	"zoetrope/film"
	"zoetrope/hue"
	"zoetrope/warp"
)

// spoilings make a film of six pixels one that may not be.
func spoilings() []func(f *film.Film) {
	return []func(f *film.Film){
		func(f *film.Film) { *f = film.Film{} },
		func(f *film.Film) { f.Size = film.Size{} }, func(f *film.Film) { f.Width++ }, func(f *film.Film) { f.Height = math.MaxInt }, func(f *film.Film) { f.Width, f.Height = -f.Width, -f.Height },
		func(f *film.Film) { f.Light = f.Light[1:] }, func(f *film.Film) { f.Light = nil }, func(f *film.Film) { f.Light = append(slices.Clip(f.Light), hue.Hue{}) },
		func(f *film.Film) { f.Depth = f.Depth[1:] }, func(f *film.Film) { f.Normal = f.Normal[:3] }, func(f *film.Film) { f.Normal = nil }, func(f *film.Film) { f.Base = nil },
		func(f *film.Film) { f.Shape = f.Shape[:5] }, func(f *film.Film) { f.Shape[5] = 128 }, func(f *film.Film) { f.Shape[0] = -2 }, func(f *film.Film) { f.Shape[2] = math.MinInt },
		func(f *film.Film) { f.Flow = nil }, func(f *film.Film) { f.Flow = append(slices.Clip(f.Flow), 0) }, func(f *film.Film) { f.Flow[0] = 6 }, func(f *film.Film) { f.Flow[5] = -2 }, func(f *film.Film) { f.Flow[3] = math.MaxInt },
	}
}

// six is a film of six pixels, each of which is its own past.
func six() film.Film {
	f := row(make([]int, 6), []int{0, 1, 2, 3, 4, 5})
	f.Size = film.Size{Width: 3, Height: 2}
	return f
}

// wantRefused holds a frame to be refused.
func wantRefused(t *testing.T, now, was film.Film, light film.Sheet) {
	t.Helper()
	if got, e := warp.Blend(now, was, light); e != api.ErrArg || !reflect.DeepEqual(got, film.Sheet{}) {
		t.Errorf("%v, %v, %v: %v, %d", now, was, light, got, e)
	}
}

// P19.1, P19.2: a film that may not be: ErrArg, and no pixel has a past.
func TestNoFilm(t *testing.T) {
	for _, spoil := range spoilings() {
		f := six()
		spoil(&f)
		wantRefused(t, f, six(), six().Sheet)
		wantRefused(t, six(), f, six().Sheet)
		wantRefused(t, f, f, f.Sheet)
		if n := warp.Kept(f, six()) + warp.Kept(six(), f) + warp.Kept(f, f); n != 0 {
			t.Errorf("%v: %d pixels have a past", f, n)
		}
		if got, e := warp.Alone(f); e != api.ErrArg || !reflect.DeepEqual(got, film.Sheet{}) {
			t.Errorf("%v: %v, %d", f, got, e)
		}
	}
	if n := warp.Kept(six(), six()); n != 6 {
		t.Errorf("%d pixels have a past", n)
	}
}

// P19.1: a sheet that may not be, or that isn't of the frame ahead's size, even if it has as many pixels.
func TestNoSheet(t *testing.T) {
	d := draw(5)
	for _, spoil := range spoilings()[:8] {
		f := six()
		spoil(&f)
		wantRefused(t, six(), six(), f.Sheet)
	}
	sizes := []film.Size{{Width: 3, Height: 2}, {Width: 2, Height: 3}, {Width: 6, Height: 1}, {Width: 1, Height: 6}, {Width: 3, Height: 1}, {Width: 3, Height: 3}, {Width: 1, Height: 1}, {Width: 64, Height: 64}}
	for _, a := range sizes {
		for _, b := range sizes {
			for _, c := range sizes {
				now, was, light := d.film(a), d.film(b), d.sheet(c)
				if c != b {
					wantRefused(t, now, was, light)
					continue
				}
				wantBlend(t, now, was, light)
			}
		}
	}
}

// copyOf is a list in new memory, with room behind its end that holds a value.
func copyOf[T any](l []T, room T) []T {
	l = append(slices.Clone(l), room, room, room)
	return l[: len(l)-3 : len(l)]
}

// filmOf is a film in new memory, whose lists have such room.
func filmOf(f film.Film) film.Film {
	f.Light, f.Base = copyOf(f.Light, h(7, 8, 9)), copyOf(f.Base, h(7, 8, 9))
	f.Depth, f.Normal, f.Shape, f.Flow = copyOf(f.Depth, 7), copyOf(f.Normal, v(7, 8, 9)), copyOf(f.Shape, 7), copyOf(f.Flow, 7)
	return f
}

// whole is a film whose lists reach on to the end of their room.
func whole(f film.Film) film.Film {
	f.Light, f.Base = f.Light[:cap(f.Light)], f.Base[:cap(f.Base)]
	f.Depth, f.Normal, f.Shape, f.Flow = f.Depth[:cap(f.Depth)], f.Normal[:cap(f.Normal)], f.Shape[:cap(f.Shape)], f.Flow[:cap(f.Flow)]
	return f
}

// R3, R5: what is handed in stays, with the room behind its end; answers are new memory, and the same once more.
func TestNewMemory(t *testing.T) {
	d := draw(6)
	for range 60 {
		s := d.size()
		now, was, light := filmOf(d.film(s)), filmOf(d.film(s)), filmOf(d.film(s))
		now0, was0, light0 := filmOf(now), filmOf(was), filmOf(light)
		a, _ := warp.Blend(now, was, light.Sheet)
		b, _ := warp.Alone(now)
		want := slices.Clone(a.Light)
		for _, l := range [][]hue.Hue{a.Light, b.Light} {
			for i := range l[:cap(l)] {
				l[:cap(l)][i] = h(-1, -2, -3)
			}
		}
		c, _ := warp.Blend(now, was, light.Sheet)
		warp.Kept(now, was)
		if !slices.Equal(c.Light, want) || c.Light[0] == h(-1, -2, -3) {
			t.Fatalf("%v, then %v", want, c.Light)
		}
		if !reflect.DeepEqual(whole(now), whole(now0)) || !reflect.DeepEqual(whole(was), whole(was0)) || !reflect.DeepEqual(whole(light), whole(light0)) {
			t.Fatalf("%v, %v, %v have changed", now, was, light)
		}
	}
}
