package lace_test

import (
	"math"
	"reflect"
	"slices"
	"testing"

	"zoetrope/api"
	"zoetrope/film"
	"zoetrope/hue"
	"zoetrope/lace"
)

// wantRefused holds a film and a sheet to be refused at all levels.
func wantRefused(t *testing.T, f film.Film, s film.Sheet) {
	t.Helper()
	for _, level := range []int{-1, 0, 1, 2, 3, 4, 5} {
		if got, e := lace.Level(f, s, level); e != api.ErrArg || !reflect.DeepEqual(got, film.Sheet{}) {
			t.Errorf("the level %d of %v, %v: %v, %d", level, f, s, got, e)
		}
	}
	if got, e := lace.Smooth(f, s); e != api.ErrArg || !reflect.DeepEqual(got, film.Sheet{}) {
		t.Errorf("%v, %v: %v, %d", f, s, got, e)
	}
}

// P20.1: levels from 0 to 4.
func TestNoLevel(t *testing.T) {
	f := surfaces()
	for _, level := range []int{math.MinInt, math.MinInt + 1, -1 << 32, -65, -5, -1, 5, 6, 31, 32, 63, 64, 65, 1 << 32, math.MaxInt - 1, math.MaxInt} {
		if got, e := lace.Level(f, f.Sheet, level); e != api.ErrArg || !reflect.DeepEqual(got, film.Sheet{}) {
			t.Errorf("the level %d: %v, %d", level, got, e)
		}
	}
	for level := range 5 {
		if _, e := lace.Level(f, f.Sheet, level); e != api.OK {
			t.Errorf("the level %d: %d", level, e)
		}
	}
}

// P20.1: a film, or a sheet, that may not be.
func TestNoFilm(t *testing.T) {
	rows := []func(f *film.Film){
		func(f *film.Film) { f.Sheet = film.Sheet{} },
		func(f *film.Film) { f.Size = film.Size{} }, func(f *film.Film) { f.Width++ }, func(f *film.Film) { f.Height = math.MaxInt }, func(f *film.Film) { f.Width, f.Height = -f.Width, -f.Height },
		func(f *film.Film) { f.Light = f.Light[1:] }, func(f *film.Film) { f.Light = nil }, func(f *film.Film) { f.Light = append(slices.Clip(f.Light), hue.Hue{}) },
		func(f *film.Film) { *f = film.Film{} }, func(f *film.Film) { f.Depth = f.Depth[1:] }, func(f *film.Film) { f.Normal = f.Normal[:3] }, func(f *film.Film) { f.Normal = nil }, func(f *film.Film) { f.Base = nil },
		func(f *film.Film) { f.Shape = f.Shape[:5] }, func(f *film.Film) { f.Shape[5] = 128 }, func(f *film.Film) { f.Shape[0] = -2 }, func(f *film.Film) { f.Shape[2] = math.MinInt },
		func(f *film.Film) { f.Flow = nil }, func(f *film.Film) { f.Flow = append(slices.Clip(f.Flow), 0) }, func(f *film.Film) { f.Flow[0] = 9 }, func(f *film.Film) { f.Flow[8] = -2 }, func(f *film.Film) { f.Flow[3] = math.MaxInt },
	}
	for i, spoil := range rows {
		f := surfaces()
		spoil(&f)
		wantRefused(t, f, surfaces().Sheet)
		wantRefused(t, f, f.Sheet)
		if i < 9 {
			wantRefused(t, surfaces(), f.Sheet)
		}
	}
	far := film.Size{Width: 65, Height: 1}
	wantRefused(t, skyOf(far, make([]hue.Hue, 65)...), film.Sheet{Size: far, Light: make([]hue.Hue, 65)})
}

// P20.1: sizes that aren't one, even if they have as many pixels.
func TestSizes(t *testing.T) {
	d := draw(30)
	sizes := []film.Size{{Width: 3, Height: 2}, {Width: 2, Height: 3}, {Width: 6, Height: 1}, {Width: 1, Height: 6}, {Width: 3, Height: 1}, {Width: 3, Height: 3}, {Width: 1, Height: 1}, {Width: 64, Height: 1}, {Width: 1, Height: 64}}
	for _, a := range sizes {
		for _, b := range sizes {
			f, s := d.film(a), d.film(b).Sheet
			if a != b {
				wantRefused(t, f, s)
				continue
			}
			wantByWords(t, f, s)
		}
	}
}

// copyOf is a list in new memory, with room behind its end that holds a value.
func copyOf[T any](l []T, room T) []T {
	l = append(slices.Clone(l), room, room, room)
	return l[: len(l)-3 : len(l)]
}

// filmOf is a film in new memory, whose lists have such room.
func filmOf(f film.Film) film.Film {
	f.Light, f.Base = copyOf(f.Light, h(7, 8, 9)), copyOf(f.Base, h(7, 8, 9))
	f.Depth, f.Normal, f.Shape, f.Flow = copyOf(f.Depth, 7), copyOf(f.Normal, v(7, 8, 9)), copyOf(f.Shape, 7), copyOf(f.Flow, 7)
	return f
}

// whole is a film whose lists reach on to the end of their room.
func whole(f film.Film) film.Film {
	f.Light, f.Base = f.Light[:cap(f.Light)], f.Base[:cap(f.Base)]
	f.Depth, f.Normal, f.Shape, f.Flow = f.Depth[:cap(f.Depth)], f.Normal[:cap(f.Normal)], f.Shape[:cap(f.Shape)], f.Flow[:cap(f.Flow)]
	return f
}

// R3, R5: what is handed in stays, with the room behind its end; answers are new memory, and the same once more.
func TestNewMemory(t *testing.T) {
	d := draw(31)
	for i := range 60 {
		s := d.size()
		f, g := filmOf(d.wild(s)), filmOf(d.wild(s))
		f0, g0 := filmOf(f), filmOf(g)
		a, _ := lace.Level(f, g.Sheet, i%5)
		b, _ := lace.Smooth(f, g.Sheet)
		wantA, wantB := slices.Clone(a.Light), slices.Clone(b.Light)
		for _, l := range [][]hue.Hue{a.Light, b.Light} {
			for i := range l[:cap(l)] {
				l[:cap(l)][i] = h(-1, -2, -3)
			}
		}
		wantLevel(t, f, g.Sheet, i%5, wantA)
		wantSmooth(t, f, g.Sheet, wantB)
		if !reflect.DeepEqual(whole(f), whole(f0)) || !reflect.DeepEqual(whole(g), whole(g0)) {
			t.Fatalf("%v, %v have changed", f, g)
		}
	}
}
