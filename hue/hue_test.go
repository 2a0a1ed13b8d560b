package hue_test

import (
	"math"
	"slices"
	"testing"

	"zoetrope/api"
	"zoetrope/fix"
	"zoetrope/hue"
)

// The calls, with the signatures that the chapter tells.
var (
	_ func(api.Fix) hue.Hue                 = hue.Gray
	_ func(a, b hue.Hue) hue.Hue            = hue.Add
	_ func(a, b hue.Hue) hue.Hue            = hue.Sub
	_ func(a, b hue.Hue) hue.Hue            = hue.Mul
	_ func(hue.Hue, api.Fix) hue.Hue        = hue.Scale
	_ func(a, b hue.Hue, t api.Fix) hue.Hue = hue.Mix
	_ func(...hue.Hue) hue.Hue              = hue.Sum
	_ func(hue.Hue) api.Fix                 = hue.Luma
	_ func(hue.Hue) hue.Hue                 = hue.Bright
	_ func(api.Fix) api.Fix                 = hue.Tone
	_ func(api.Fix) byte                    = hue.Shade
	_ func(hue.Hue) [3]byte                 = hue.Show
	_ func(hue.Hue, int) hue.Hue            = hue.Mean
	_ func(a, b hue.Hue) api.Fix            = hue.Diff
	_ struct{ R, G, B api.Fix }             = hue.Hue{}
)

const (
	one  = api.One
	most = api.Most
)

// h is a light of three kinds, in units.
func h(r, g, b api.Fix) hue.Hue { return hue.Hue{R: r, G: g, B: b} }

// some are numbers of all sizes, the same ones in every run; about one in sixteen lies beyond the span.
func some(n int) []api.Fix {
	l := make([]api.Fix, n)
	state := uint64(1)
	for i := range l {
		state = state*6364136223846793005 + 1442695040888963407
		l[i] = api.Fix(int64(state)>>32) >> (state >> 16 % 32)
		if i%16 == 15 {
			l[i] *= 1 << 20
		}
	}
	return l
}

// lights are lights below 0, up to One, beyond it, at the span's ends and beyond them.
func lights() []hue.Hue {
	l := []hue.Hue{
		{}, h(one, 0, 0), h(0, one, 0), h(0, 0, one), h(one, one, one), h(one/2, one/3, one/4), h(-one, -1, 1),
		h(16*one, 3*one, -one/2), h(1, 1, 1), h(-1, -1, -1), h(3, -5, 7), h(one-1, one+1, -one-1),
		h(most, most, -most), h(-most, most, most), h(most, -most, most), h(most-1, 1-most, most),
		h(most+1, -most-1, 2*most), h(math.MaxInt64, math.MinInt64, 1), h(math.MinInt64, 0, math.MaxInt64),
	}
	n := some(120)
	for i := 0; i+2 < len(n); i += 3 {
		l = append(l, h(n[i], n[i+1], n[i+2]))
	}
	return l
}

// isHue tells whether what a call answers is what it must be.
func isHue(t *testing.T, name string, got, want hue.Hue) {
	t.Helper()
	if got != want {
		t.Errorf("%s = %v, not %v", name, got, want)
	}
}

// isByKind tells whether a call does the same to each pair of kinds.
func isByKind(t *testing.T, name string, call func(a, b hue.Hue) hue.Hue, do func(x, y api.Fix) api.Fix) {
	t.Helper()
	l := lights()
	for _, a := range l {
		for _, b := range l {
			want := h(do(a.R, b.R), do(a.G, b.G), do(a.B, b.B))
			if got := call(a, b); got != want {
				t.Fatalf("%s(%v, %v) = %v, not %v", name, a, b, got, want)
			}
		}
	}
}

// P5.1
func TestGray(t *testing.T) {
	for _, n := range []api.Fix{0, 1, -1, one, -one, 16 * one, most, -most} {
		isHue(t, "Gray", hue.Gray(n), h(n, n, n))
	}
}

// P5.1
func TestAddSub(t *testing.T) {
	isHue(t, "Add", hue.Add(h(1, 2, 3), h(10, -20, 30)), h(11, -18, 33))
	isHue(t, "Add held", hue.Add(h(most, -most, math.MaxInt64), h(1, -1, math.MaxInt64)), h(most, -most, most))
	isHue(t, "Sub", hue.Sub(h(1, 2, 3), h(10, -20, 30)), h(-9, 22, -27))
	isHue(t, "Sub held", hue.Sub(h(most, -most, 0), h(-1, 1, math.MinInt64)), h(most, -most, most))
	isByKind(t, "Add", hue.Add, fix.Add)
	isByKind(t, "Sub", hue.Sub, fix.Sub)
}

// P5.1
func TestMul(t *testing.T) {
	isHue(t, "Mul", hue.Mul(h(one/2, 2*one, -one), h(one/2, 3*one, one/4)), h(one/4, 6*one, -one/4))
	isHue(t, "Mul rounded down", hue.Mul(h(1, -1, 3), h(1, 1, one/2)), h(0, -1, 1))
	isHue(t, "Mul held", hue.Mul(h(most, -most, math.MaxInt64), h(2*one, 2*one, math.MinInt64)), h(most, -most, -most))
	isByKind(t, "Mul", hue.Mul, fix.Mul)
}

// P5.1
func TestScale(t *testing.T) {
	isHue(t, "Scale", hue.Scale(h(one, -2*one, 3*one), 2*one), h(2*one, -4*one, 6*one))
	isHue(t, "Scale down", hue.Scale(h(1, -1, 3), one/2), h(0, -1, 1))
	isHue(t, "Scale held", hue.Scale(h(most, -most, one), 2*one), h(most, -most, 2*one))
	isHue(t, "Scale by what is below 0", hue.Scale(h(1, -1, one), -one), h(-1, 1, -one))
	for _, s := range []api.Fix{0, 1, -1, one / 3, one, -one, 3 * one, most, -most, most + 1, math.MinInt64} {
		call := func(a, _ hue.Hue) hue.Hue { return hue.Scale(a, s) }
		isByKind(t, "Scale", call, func(x, _ api.Fix) api.Fix { return fix.Mul(x, s) })
	}
}

// P5.1
func TestMix(t *testing.T) {
	isHue(t, "Mix", hue.Mix(h(0, 2*one, -4*one), h(4*one, 0, 4*one), one/4), h(one, 2*one-one/2, -2*one))
	isHue(t, "Mix at its beginning", hue.Mix(h(1, 2, 3), h(4, 5, 6), 0), h(1, 2, 3))
	isHue(t, "Mix at its end", hue.Mix(h(1, 2, 3), h(4, 5, 6), one), h(4, 5, 6))
	isHue(t, "Mix ahead of its beginning", hue.Mix(h(1, 2, 3), h(4, 5, 6), -one), h(1, 2, 3))
	isHue(t, "Mix behind its end", hue.Mix(h(1, 2, 3), h(4, 5, 6), 2*one), h(4, 5, 6))
	isHue(t, "Mix over the span", hue.Mix(h(-most, most, 0), h(most, -most, -1), one/2), h(0, 0, -1))
	for _, by := range []api.Fix{math.MinInt64, -1, 0, 1, one / 3, one / 2, one - 1, one, one + 1, math.MaxInt64} {
		call := func(a, b hue.Hue) hue.Hue { return hue.Mix(a, b, by) }
		isByKind(t, "Mix", call, func(x, y api.Fix) api.Fix { return fix.Lerp(x, y, by) })
	}
}

// P5.1
func TestSum(t *testing.T) {
	isHue(t, "Sum of nothing", hue.Sum(), hue.Hue{})
	isHue(t, "Sum of an empty list", hue.Sum([]hue.Hue{}...), hue.Hue{})
	isHue(t, "Sum of one", hue.Sum(h(1, -2, 3)), h(1, -2, 3))
	isHue(t, "Sum of one beyond the span", hue.Sum(h(most+1, math.MinInt64, 3)), h(most, -most, 3))
	isHue(t, "Sum", hue.Sum(h(1, 2, 3), h(10, 20, 30), h(100, -200, 300)), h(111, -178, 333))
	isHue(t, "Sum in order", hue.Sum(h(most, -most, most), h(most, most, most), h(-most, most, -1)), h(0, most, most-1))
}

// R3: the list that is handed in, and the room behind its end, stay.
func TestSumLeavesItsList(t *testing.T) {
	room := []hue.Hue{h(most+3, 5, -5), h(1, 2, 3), h(-4, -5, -6), h(7, 8, 9)}
	kept := slices.Clone(room)
	hue.Sum(room[:2]...)
	if !slices.Equal(room, kept) {
		t.Errorf("Sum made %v of its list", room)
	}
}

// P5.2: the numbers are reckoned apart from the program.
func TestLuma(t *testing.T) {
	rows := []struct {
		a    hue.Hue
		want api.Fix
	}{
		{hue.Hue{}, 0}, {h(8, 0, 0), 2}, {h(0, 8, 0), 5}, {h(0, 0, 8), 1}, {h(one, 0, 0), one / 4}, {h(0, one, 0), 5 * one / 8}, {h(0, 0, one), one / 8}, {h(one, one, one), one},
		{h(1, 0, 0), 0}, {h(0, 1, 0), 0}, {h(0, 0, 7), 0}, {h(1, 1, 0), 0}, {h(1, 1, 1), 1}, {h(-1, 0, 0), -1}, {h(0, -1, 0), -1}, {h(0, 0, -1), -1}, {h(0, 0, -9), -2}, {h(3, 1, -4), 0},
		{h(-one, one, -one), one / 4}, {h(16*one, 3*one, -one/2), 380928},
		{h(most, 0, 0), most / 4}, {h(0, most, 0), 1342177280}, {h(0, 0, most), most / 8}, {h(most, most, most), most}, {h(-most, -most, -most), -most}, {h(most, -most, most), -most / 4},
		{h(most/2+4, 0, 0), 268435457}, {h(0, most/2, 0), 671088640}, {h(0, -most/4, 0), -335544320},
		{h(most+1, 0, 0), most / 4}, {h(0, most+8, 0), 1342177280}, {h(0, 0, -most-8), -most / 8},
		{h(math.MaxInt64, math.MaxInt64, math.MaxInt64), most}, {h(math.MinInt64, math.MinInt64, math.MinInt64), -most}, {h(math.MaxInt64, math.MinInt64, math.MaxInt64), -most / 4}, {h(math.MinInt64, 0, math.MaxInt64), -most / 8},
	}
	for _, r := range rows {
		if got := hue.Luma(r.a); got != r.want {
			t.Errorf("Luma(%v) = %d, not %d", r.a, got, r.want)
		}
	}
	for _, n := range append(some(200), 0, 1, -1, one, most, -most) {
		if got, want := hue.Luma(hue.Gray(n)), fix.Clamp(int64(n)); got != want {
			t.Errorf("Luma of gray %d = %d", n, got)
		}
	}
}

// P5.2
func TestBright(t *testing.T) {
	isHue(t, "Bright of zero", hue.Bright(hue.Hue{}), hue.Hue{})
	isHue(t, "Bright", hue.Bright(h(1, one, 16*one)), h(1, one, 16*one))
	isHue(t, "Bright below 0", hue.Bright(h(-1, -one, -most)), hue.Hue{})
	isHue(t, "Bright, kind by kind", hue.Bright(h(-1, 2, -3)), h(0, 2, 0))
	isHue(t, "Bright, kind by kind", hue.Bright(h(1, -2, 3)), h(1, 0, 3))
	isHue(t, "Bright beyond the span", hue.Bright(h(most, most+1, math.MaxInt64)), h(most, most+1, math.MaxInt64))
	isHue(t, "Bright below the span", hue.Bright(h(-most-1, math.MinInt64, 2*most)), h(0, 0, 2*most))
}

// P5.2
func TestMean(t *testing.T) {
	isHue(t, "Mean of one", hue.Mean(h(5, -6, 7), 1), h(5, -6, 7))
	isHue(t, "Mean", hue.Mean(h(6, 9*one, -3*one), 3), h(2, 3*one, -one))
	isHue(t, "Mean rounded down", hue.Mean(h(7, -7, 2), 3), h(2, -3, 0))
	isHue(t, "Mean of the sum's ends", hue.Mean(h(most, -most, most-1), 2), h(most/2, -most/2, most/2-1))
	isHue(t, "Mean beyond the span", hue.Mean(h(most+9, math.MinInt64, math.MaxInt64), 4), h(most/4, -most/4, most/4))
	isHue(t, "Mean of as many as can be told", hue.Mean(h(most, -most, one), 32768), h(one, -one, 2))
	isHue(t, "Mean of more", hue.Mean(h(most, -most, one), 32769), h(one, -one, 2))
	isHue(t, "Mean of the most", hue.Mean(h(most, -most, -1), math.MaxInt), h(one, -one, -1))
	for _, n := range []int{0, -1, -2, -65536, math.MinInt} {
		for _, a := range lights() {
			isHue(t, "Mean of none", hue.Mean(a, n), hue.Hue{})
		}
	}
	for _, n := range []int{1, 2, 3, 7, 16, 255, 32767, 32768, 65536, math.MaxInt} {
		call := func(a, _ hue.Hue) hue.Hue { return hue.Mean(a, n) }
		isByKind(t, "Mean", call, func(x, _ api.Fix) api.Fix { return fix.Div(x, fix.Of(n)) })
	}
}

// P5.2
func TestDiff(t *testing.T) {
	rows := []struct {
		a, b hue.Hue
		want api.Fix
	}{
		{hue.Hue{}, hue.Hue{}, 0}, {h(1, 2, 3), h(1, 2, 3), 0}, {h(1, 0, 0), hue.Hue{}, 1}, {h(0, 2, 0), hue.Hue{}, 2}, {h(0, 0, 4), hue.Hue{}, 4},
		{h(1, 2, 3), h(10, 20, 30), 54}, {h(10, 20, 30), h(1, 2, 3), 54}, {h(5, -5, 1), h(-5, 5, 2), 21}, {h(one, 3*one, -one), h(2*one, one, one), 5 * one},
		{h(most, 0, 0), h(-most, 0, 0), most}, {h(most-7, 0, 0), h(0, 5, 0), most - 2}, {h(most-7, 0, 0), h(0, 5, -5), most}, {h(most, most, most), h(-most, -most, -most), most},
		{h(most+9, 0, 0), h(most, 0, 0), 0}, {h(math.MaxInt64, math.MinInt64, 5), h(most, -most, 0), 5}, {h(math.MinInt64, math.MinInt64, math.MinInt64), h(math.MaxInt64, math.MaxInt64, math.MaxInt64), most},
	}
	for _, r := range rows {
		if got := hue.Diff(r.a, r.b); got != r.want {
			t.Errorf("Diff(%v, %v) = %d, not %d", r.a, r.b, got, r.want)
		}
	}
	for _, a := range lights() {
		for _, b := range lights() {
			want := fix.Sum(fix.Abs(fix.Sub(a.R, b.R)), fix.Abs(fix.Sub(a.G, b.G)), fix.Abs(fix.Sub(a.B, b.B)))
			if got := hue.Diff(a, b); got != want {
				t.Fatalf("Diff(%v, %v) = %d, not %d", a, b, got, want)
			}
		}
	}
}
