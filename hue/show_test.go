package hue_test

import (
	"math"
	"testing"

	"zoetrope/api"
	"zoetrope/fix"
	"zoetrope/hue"
)

// P5.3: the numbers are reckoned apart from the program.
func TestTone(t *testing.T) {
	rows := [][2]api.Fix{
		{0, 0}, {1, 0}, {2, 256}, {3, 362}, {16, 991}, {100, 2547}, {one / 8, 21844}, {one / 4, 29308}, {one / 3, 32766}, {one / 2, 37836}, {one - 1, 46340}, {one, 46340}, {one + 1, 46340},
		{2 * one, 53509}, {3 * one, 56755}, {4 * one, 58616}, {16 * one, 63578}, {255 * one, 65407}, {1000 * one, 65502}, {most / 2, 65533},
		{most - one - 1, 65534}, {most - one, 65534}, {most - one + 1, 65534}, {most - 1, 65535}, {most, one}, {most + 1, one}, {math.MaxInt64, one},
		{-1, 0}, {1 - one, 0}, {-one, 0}, {-one - 1, 0}, {-2 * one, 0}, {-most, 0}, {-most - 1, 0}, {math.MinInt64, 0},
	}
	for _, r := range rows {
		if got := hue.Tone(r[0]); got != r[1] {
			t.Errorf("Tone(%d) = %d, not %d", r[0], got, r[1])
		}
	}
	for x := range 20 * one {
		if got, want := hue.Tone(x), fix.Root(x*one/(x+one)); got != want {
			t.Fatalf("Tone(%d) = %d, not %d", x, got, want)
		}
	}
}

// P5.3: the numbers are reckoned apart from the program.
func TestShade(t *testing.T) {
	rows := []struct {
		y    api.Fix
		want byte
	}{
		{0, 0}, {1, 0}, {128, 0}, {129, 1}, {257, 1}, {385, 1}, {386, 2}, {12345, 48}, {one / 4, 64}, {one/2 - 1, 127}, {one / 2, 128}, {33025, 128}, {33026, 129}, {46340, 180}, {54321, 211},
		{65150, 253}, {65151, 254}, {65407, 254}, {65408, 255}, {one - 1, 255}, {one, 255}, {one + 1, 255}, {2 * one, 255}, {most, 255}, {most + 1, 255}, {math.MaxInt64, 255},
		{-1, 0}, {-one, 0}, {-most, 0}, {-most - 1, 0}, {math.MinInt64, 0},
	}
	for _, r := range rows {
		if got := hue.Shade(r.y); got != r.want {
			t.Errorf("Shade(%d) = %d, not %d", r.y, got, r.want)
		}
	}
	for y := range int64(one + 1) {
		if got, want := hue.Shade(api.Fix(y)), byte((255*y+32768)/65536); got != want {
			t.Fatalf("Shade(%d) = %d, not %d", y, got, want)
		}
	}
}

// P5.3
func TestShow(t *testing.T) {
	rows := []struct {
		a    hue.Hue
		want [3]byte
	}{
		{hue.Hue{}, [3]byte{}}, {h(one, one, one), [3]byte{180, 180, 180}}, {h(one, 0, 0), [3]byte{180, 0, 0}}, {h(0, one, 0), [3]byte{0, 180, 0}}, {h(0, 0, one), [3]byte{0, 0, 180}},
		{h(1, one/2, one), [3]byte{0, 147, 180}}, {h(one/4, 2*one, 16*one), [3]byte{114, 208, 247}}, {h(100, 3*one, -5), [3]byte{10, 221, 0}}, {h(1, 4, 16), [3]byte{0, 2, 4}},
		{h(-1, -2*one, math.MinInt64), [3]byte{}}, {h(most, math.MaxInt64, 1000*one), [3]byte{255, 255, 255}},
	}
	for _, r := range rows {
		if got := hue.Show(r.a); got != r.want {
			t.Errorf("Show(%v) = %v, not %v", r.a, got, r.want)
		}
	}
	for _, a := range lights() {
		want := [3]byte{hue.Shade(hue.Tone(a.R)), hue.Shade(hue.Tone(a.G)), hue.Shade(hue.Tone(a.B))}
		if got := hue.Show(a); got != want {
			t.Errorf("Show(%v) = %v, not %v", a, got, want)
		}
	}
}

// rises tells whether Tone never falls from a number on to another one, by such steps, and lies from 0 to One.
func rises(t *testing.T, from, to, step api.Fix) {
	t.Helper()
	last := hue.Tone(from)
	for x := from; x <= to; x += step {
		got := hue.Tone(x)
		if got < last || got < 0 || got >= one+1 {
			t.Fatalf("Tone(%d) = %d, behind %d", x, got, last)
		}
		last = got
	}
}

// P5.4
func TestToneRises(t *testing.T) {
	rises(t, -3*one, 3*one, 1)
	rises(t, -most-2*one, most+2*one, one/4+7)
	rises(t, most-3*one, most+one, 1)
	rises(t, 32*one-9, most, 32*one+1)
	ends := []api.Fix{math.MinInt64, -most - 1, -most, -1, 0, 1, one, most - 1, most, most + 1, math.MaxInt64}
	for i := range ends[1:] {
		if a, b := hue.Tone(ends[i]), hue.Tone(ends[i+1]); a > b {
			t.Errorf("Tone(%d) = %d, Tone(%d) = %d", ends[i], a, ends[i+1], b)
		}
	}
}
