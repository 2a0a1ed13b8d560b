package fix_test

import (
	"math"
	"math/big"
	"slices"
	"testing"

	"zoetrope/api"
	"zoetrope/fix"
)

// The calls, with the signatures that the chapter tells.
var (
	_ func(int64) api.Fix               = fix.Clamp
	_ func(int) api.Fix                 = fix.Of
	_ func(a, b api.Fix) api.Fix        = fix.Add
	_ func(a, b api.Fix) api.Fix        = fix.Sub
	_ func(api.Fix) api.Fix             = fix.Neg
	_ func(api.Fix) api.Fix             = fix.Abs
	_ func(...api.Fix) api.Fix          = fix.Sum
	_ func(a, b api.Fix) api.Fix        = fix.Mul
	_ func(a, b api.Fix) api.Fix        = fix.Div
	_ func(api.Fix) int                 = fix.Whole
	_ func(api.Fix) api.Fix             = fix.Part
	_ func(api.Fix) api.Fix             = fix.Unit
	_ func(a, b, t api.Fix) api.Fix     = fix.Lerp
	_ func(api.Fix) api.Fix             = fix.Root
	_ func(api.Fix) string              = fix.Text
	_ func(string) (api.Fix, api.Errno) = fix.Parse
)

const (
	one  = api.One
	most = api.Most
)

// edges are the numbers at which something turns over, those beyond the span among them.
func edges() []api.Fix {
	above := []api.Fix{
		0, 1, 2, 3, 255, 256, 257,
		one / 3, one / 2, one - 1, one, one + 1, one + one/2, 2 * one, 3 * one, 181 * one, 182 * one,
		most / 2, most - one, most - 1, most, most + 1, most + one, 2 * most, 3*most + 7, 1 << 40, 1 << 47, 1 << 48, 1 << 62,
		math.MaxInt64 - 1, math.MaxInt64,
	}
	l := []api.Fix{math.MinInt64, math.MinInt64 + 1}
	for _, a := range above {
		l = append(l, a, -a)
	}
	return l
}

// next goes on with a row of numbers without a rule that is to be seen.
func next(state uint64) uint64 { return state*6364136223846793005 + 1442695040888963407 }

// some are numbers of all sizes, the same ones in every run; about one in sixteen lies beyond the span.
func some(n int) []api.Fix {
	l := make([]api.Fix, n)
	state := uint64(1)
	for i := range l {
		state = next(state)
		l[i] = api.Fix(int64(state)>>32) >> (state >> 16 % 32)
		if i%16 == 15 {
			l[i] *= 1 << 20
		}
	}
	return l
}

// numbers are the edges and some more.
func numbers() []api.Fix { return append(edges(), some(150)...) }

// held is a whole number of any size, brought to the span.
func held(n *big.Int) api.Fix {
	end := big.NewInt(int64(most))
	if n.CmpAbs(end) > 0 {
		if n.Sign() < 0 {
			return -most
		}
		return most
	}
	return api.Fix(n.Int64())
}

// taken is a number as the layer takes it, as a whole number of any size.
func taken(a api.Fix) *big.Int {
	return big.NewInt(int64(held(big.NewInt(int64(a)))))
}

// floor is a quotient, rounded down.
func floor(a, b *big.Int) *big.Int {
	q, m := new(big.Int), new(big.Int)
	q.DivMod(a, b, m)
	// DivMod leaves no rest below 0; by a number below 0 that is rounding up.
	if b.Sign() < 0 && m.Sign() != 0 {
		q.Sub(q, big.NewInt(1))
	}
	return q
}

func bigOne() *big.Int { return big.NewInt(int64(one)) }

// isFix tells of each row what a call of one number answers, and what it must.
func isFix(t *testing.T, name string, call func(api.Fix) api.Fix, rows [][2]api.Fix) {
	t.Helper()
	for _, r := range rows {
		if got := call(r[0]); got != r[1] {
			t.Errorf("%s(%d) = %d, not %d", name, r[0], got, r[1])
		}
	}
}

// isFix2 is isFix for calls of two numbers.
func isFix2(t *testing.T, name string, call func(a, b api.Fix) api.Fix, rows [][3]api.Fix) {
	t.Helper()
	for _, r := range rows {
		if got := call(r[0], r[1]); got != r[2] {
			t.Errorf("%s(%d, %d) = %d, not %d", name, r[0], r[1], got, r[2])
		}
	}
}

// isAsBig tells whether a call of two numbers answers what whole numbers of any size make of them.
func isAsBig(t *testing.T, name string, call func(a, b api.Fix) api.Fix, want func(a, b *big.Int) *big.Int) {
	t.Helper()
	l := numbers()
	for _, a := range l {
		for _, b := range l {
			w := held(want(taken(a), taken(b)))
			if got := call(a, b); got != w {
				t.Fatalf("%s(%d, %d) = %d, not %d", name, a, b, got, w)
			}
		}
	}
}

// P1.1
func TestClamp(t *testing.T) {
	rows := [][2]int64{
		{0, 0}, {1, 1}, {-1, -1}, {65536, 65536}, {-65537, -65537},
		{1<<31 - 1, 1<<31 - 1}, {1 << 31, 1 << 31}, {1<<31 + 1, 1 << 31},
		{1 - 1<<31, 1 - 1<<31}, {-1 << 31, -1 << 31}, {-1<<31 - 1, -1 << 31},
		{1 << 32, 1 << 31}, {-1 << 32, -1 << 31}, {1 << 33, 1 << 31},
		{math.MaxInt64, 1 << 31}, {math.MinInt64, -1 << 31}, {math.MinInt64 + 1, -1 << 31},
	}
	for _, r := range rows {
		if got := fix.Clamp(r[0]); got != api.Fix(r[1]) {
			t.Errorf("Clamp(%d) = %d, not %d", r[0], got, r[1])
		}
	}
}

// P1.1
func TestOf(t *testing.T) {
	rows := []struct {
		n    int
		want api.Fix
	}{
		{0, 0}, {1, one}, {-1, -one}, {3, 3 * one}, {-181, -181 * one},
		{32767, most - one}, {32768, most}, {32769, most}, {-32767, one - most}, {-32768, -most}, {-32769, -most},
		{65536, most}, {-65536, -most}, {1 << 30, most}, {math.MaxInt32, most}, {math.MinInt32, -most},
		{math.MaxInt, most}, {math.MinInt, -most}, {math.MaxInt / 65536, most}, {math.MaxInt/65536 + 1, most}, {math.MinInt/65536 - 1, -most},
	}
	for _, r := range rows {
		if got := fix.Of(r.n); got != r.want {
			t.Errorf("Of(%d) = %d, not %d", r.n, got, r.want)
		}
	}
}

// P1.1
func TestAddSub(t *testing.T) {
	isFix2(t, "Add", fix.Add, [][3]api.Fix{
		{0, 0, 0}, {1, 2, 3}, {one, -2, one - 2}, {-one, -one, -2 * one},
		{most, 0, most}, {most, 1, most}, {most - 1, 1, most}, {most, -1, most - 1}, {-most, -1, -most}, {most, most, most}, {-most, -most, -most}, {most, -most, 0},
		{most + 5, -5, most - 5}, {-most - 5, 5, 5 - most}, {math.MaxInt64, math.MaxInt64, most}, {math.MinInt64, math.MinInt64, -most}, {math.MaxInt64, math.MinInt64, 0},
	})
	isFix2(t, "Sub", fix.Sub, [][3]api.Fix{
		{0, 0, 0}, {1, 2, -1}, {2, 1, 1}, {one, -2, one + 2},
		{most, -1, most}, {-most, 1, -most}, {most, most, 0}, {most, -most, most}, {-most, most, -most},
		{most + 5, 5, most - 5}, {0, most + 5, -most}, {0, math.MinInt64, most}, {math.MinInt64, math.MaxInt64, -most}, {math.MinInt64, math.MinInt64, 0},
	})
	isAsBig(t, "Add", fix.Add, func(a, b *big.Int) *big.Int { return new(big.Int).Add(a, b) })
	isAsBig(t, "Sub", fix.Sub, func(a, b *big.Int) *big.Int { return new(big.Int).Sub(a, b) })
}

// P1.1
func TestNegAbs(t *testing.T) {
	isFix(t, "Neg", fix.Neg, [][2]api.Fix{
		{0, 0}, {1, -1}, {-1, 1}, {one, -one}, {most, -most}, {-most, most}, {most - 1, 1 - most},
		{most + 1, -most}, {-most - 1, most}, {math.MaxInt64, -most}, {math.MinInt64, most},
	})
	isFix(t, "Abs", fix.Abs, [][2]api.Fix{
		{0, 0}, {1, 1}, {-1, 1}, {one, one}, {-one, one}, {most, most}, {-most, most}, {1 - most, most - 1},
		{most + 1, most}, {-most - 1, most}, {math.MaxInt64, most}, {math.MinInt64, most},
	})
}

// P1.1
func TestSum(t *testing.T) {
	rows := []struct {
		l    []api.Fix
		want api.Fix
	}{
		{nil, 0}, {[]api.Fix{}, 0}, {[]api.Fix{7}, 7}, {[]api.Fix{1, 2, 3}, 6}, {[]api.Fix{-one, 1}, 1 - one},
		{[]api.Fix{most + 9}, most}, {[]api.Fix{math.MinInt64}, -most},
		{[]api.Fix{most, most, -most}, 0}, {[]api.Fix{most, -most, most}, most}, {[]api.Fix{-most, most, most}, most},
		{[]api.Fix{-most, -1, 1}, 1 - most}, {[]api.Fix{1, -1, -most}, -most}, {[]api.Fix{math.MaxInt64, -1, math.MinInt64}, -1},
		{[]api.Fix{2 * most, -one}, most - one},
	}
	for _, r := range rows {
		if got := fix.Sum(r.l...); got != r.want {
			t.Errorf("Sum(%v) = %d, not %d", r.l, got, r.want)
		}
	}
	if fix.Sum() != 0 {
		t.Error("Sum of nothing")
	}
}

// R3: the list that is handed in, and the room behind its end, stay.
func TestSumLeavesItsList(t *testing.T) {
	room := []api.Fix{most + 3, -4, 5, 6, 7}
	fix.Sum(room[:3]...)
	if !slices.Equal(room, []api.Fix{most + 3, -4, 5, 6, 7}) {
		t.Errorf("Sum made %v of its list", room)
	}
}

// P1.2
func TestMul(t *testing.T) {
	isFix2(t, "Mul", fix.Mul, [][3]api.Fix{
		{0, 0, 0}, {0, -most, 0}, {one, one, one}, {2 * one, 3 * one, 6 * one}, {one / 2, one / 2, one / 4}, {-one, one, -one}, {-one, -one, one},
		{1, 1, 0}, {-1, 1, -1}, {1, -1, -1}, {-1, -1, 0}, {3, one / 2, 1}, {-3, one / 2, -2}, {one - 1, -1, -1}, {one + 1, -1, -2}, {-1, one, -1},
		{most, one, most}, {-most, one, -most}, {most, one + 1, most}, {most, -one - 1, -most}, {most, most, most}, {most, -most, -most}, {-most, -most, most},
		{181 * one, 181 * one, 32761 * one}, {182 * one, 181 * one, most}, {182 * one, -181 * one, -most},
		{most + 9, 1, most >> 16}, {-most - 9, 1, -most >> 16}, {math.MaxInt64, math.MaxInt64, most}, {math.MinInt64, math.MinInt64, most}, {math.MinInt64, 2, -65536}, {math.MaxInt64, -1, -32768},
	})
	isAsBig(t, "Mul", fix.Mul, func(a, b *big.Int) *big.Int { return floor(new(big.Int).Mul(a, b), bigOne()) })
}

// P1.2
func TestDiv(t *testing.T) {
	isFix2(t, "Div", fix.Div, [][3]api.Fix{
		{0, one, 0}, {one, one, one}, {one, 3 * one, 21845}, {-one, 3 * one, -21846}, {one, -3 * one, -21846}, {-one, -3 * one, 21845}, {6 * one, 2 * one, 3 * one}, {-6 * one, 2 * one, -3 * one},
		{1, 2 * one, 0}, {-1, 2 * one, -1}, {1, -2 * one, -1}, {-1, -2 * one, 0}, {1, most, 0}, {-1, most, -1}, {0, -one, 0},
		{one, 1, most}, {-one, 1, -most}, {one, 2, most}, {one - 1, 2, (one - 1) << 15}, {most, 1, most}, {most, one, most}, {-most, one, -most}, {most, -one, -most}, {most, one - 1, most},
		{1, 0, most}, {-1, 0, -most}, {0, 0, 0}, {most, 0, most}, {-most, 0, -most}, {math.MaxInt64, 0, most}, {math.MinInt64, 0, -most},
		{most + 9, most, one}, {most, most + 9, one}, {math.MaxInt64, math.MinInt64, -one}, {math.MinInt64, math.MaxInt64, -one}, {math.MinInt64, -1, most}, {one, math.MaxInt64, 2},
	})
	isAsBig(t, "Div", fix.Div, func(a, b *big.Int) *big.Int {
		if b.Sign() == 0 {
			return new(big.Int).Mul(a, big.NewInt(int64(most)))
		}
		return floor(new(big.Int).Mul(a, bigOne()), b)
	})
}

// P1.3
func TestWholePart(t *testing.T) {
	rows := []struct {
		a     api.Fix
		whole int
		part  api.Fix
	}{
		{0, 0, 0}, {1, 0, 1}, {one - 1, 0, one - 1}, {one, 1, 0}, {one + 1, 1, 1}, {3*one + one/2, 3, one / 2},
		{-1, -1, one - 1}, {1 - one, -1, 1}, {-one, -1, 0}, {-one - 1, -2, one - 1}, {-98304, -2, one / 2},
		{most - 1, 32767, one - 1}, {most, 32768, 0}, {most + 1, 32768, 0}, {-most, -32768, 0}, {1 - most, -32768, 1}, {-most - 1, -32768, 0},
		{math.MaxInt64, 32768, 0}, {math.MinInt64, -32768, 0},
	}
	for _, r := range rows {
		if w, p := fix.Whole(r.a), fix.Part(r.a); w != r.whole || p != r.part {
			t.Errorf("Whole, Part of %d = %d, %d, not %d, %d", r.a, w, p, r.whole, r.part)
		}
	}
	for _, a := range numbers() {
		w, p := fix.Whole(a), fix.Part(a)
		if p < 0 || p >= one || api.Fix(w)*one+p != fix.Clamp(int64(a)) {
			t.Errorf("Whole, Part of %d = %d, %d", a, w, p)
		}
	}
}

// P1.3
func TestUnit(t *testing.T) {
	isFix(t, "Unit", fix.Unit, [][2]api.Fix{
		{0, 0}, {1, 1}, {one / 2, one / 2}, {one - 1, one - 1}, {one, one}, {one + 1, one}, {most, one}, {math.MaxInt64, one},
		{-1, 0}, {-one, 0}, {-most, 0}, {math.MinInt64, 0},
	})
}

// P1.3
func TestLerp(t *testing.T) {
	rows := [][4]api.Fix{
		{0, one, 0, 0}, {0, one, one, one}, {0, one, one / 2, one / 2}, {one, 0, one / 4, one - one/4}, {5, 5, 1234, 5}, {-one, one, one / 2, 0},
		{0, 1, one - 1, 0}, {0, 1, one, 1}, {0, -1, 1, -1}, {0, -1, 0, 0}, {10, 7, one / 2, 8}, {-10, -7, one / 2, -9}, {7, 10, one / 2, 8},
		{3, 9, -1, 3}, {3, 9, -one, 3}, {3, 9, one + 1, 9}, {3, 9, math.MaxInt64, 9}, {3, 9, math.MinInt64, 3},
		{-most, most, 0, -most}, {-most, most, one, most}, {-most, most, one / 2, 0}, {most, -most, one / 2, 0}, {-most, most, one / 4, -most / 2}, {most, -most, one / 4, most / 2}, {-most, most, 1, one - most}, {-most, most, one - 1, most - one},
		{most + 9, 0, 0, most}, {most + 9, 0, one / 2, most / 2}, {0, -most - 9, one, -most}, {math.MinInt64, math.MaxInt64, one / 2, 0}, {math.MaxInt64, math.MinInt64, one, -most}, {math.MaxInt64, math.MinInt64, 0, most},
	}
	for _, r := range rows {
		if got := fix.Lerp(r[0], r[1], r[2]); got != r[3] {
			t.Errorf("Lerp(%d, %d, %d) = %d, not %d", r[0], r[1], r[2], got, r[3])
		}
	}
	for _, by := range []api.Fix{-one, -1, 0, 1, 2, one / 3, one / 2, one - 1, one, one + 1, most} {
		unit := big.NewInt(int64(min(max(by, 0), one)))
		call := func(a, b api.Fix) api.Fix { return fix.Lerp(a, b, by) }
		isAsBig(t, "Lerp", call, func(a, b *big.Int) *big.Int {
			way := new(big.Int).Sub(b, a)
			return floor(way.Mul(way, unit), bigOne()).Add(a, floor(way, bigOne()))
		})
	}
}

// P1.3
func TestRoot(t *testing.T) {
	isFix(t, "Root", fix.Root, [][2]api.Fix{
		{0, 0}, {1, 256}, {2, 362}, {3, 443}, {4, 512}, {one / 4, one / 2}, {one - 1, one - 1}, {one, one}, {one + 1, one}, {one + 2, one}, {one + 3, one + 1}, {2 * one, 92681}, {4 * one, 2 * one}, {4*one - 1, 2*one - 1},
		{181 * 181 * one, 181 * one}, {most - 1, 11863283}, {most, 11863283}, {most + 1, 11863283}, {4 * most, 11863283}, {math.MaxInt64, 11863283},
		{-1, 0}, {-one, 0}, {-most, 0}, {-most - 1, 0}, {math.MinInt64, 0},
	})
	for _, a := range numbers() {
		n := taken(a)
		if n.Sign() < 0 {
			n.SetInt64(0)
		}
		want := n.Sqrt(n.Mul(n, bigOne())).Int64()
		if got := fix.Root(a); got != api.Fix(want) {
			t.Errorf("Root(%d) = %d, not %d", a, got, want)
		}
	}
}

// P1.5
func TestLerpLiesBetween(t *testing.T) {
	l := numbers()
	for _, by := range []api.Fix{-5, 0, 1, one / 3, one - 1, one, 2 * one} {
		for _, a := range l {
			for _, b := range l {
				from, to := fix.Clamp(int64(a)), fix.Clamp(int64(b))
				if got := fix.Lerp(a, b, by); got < min(from, to) || got > max(from, to) {
					t.Fatalf("Lerp(%d, %d, %d) = %d", a, b, by, got)
				}
			}
		}
	}
}

// P1.5
func TestLerpNeverFalls(t *testing.T) {
	l := numbers()
	slices.Sort(l)
	for _, by := range []api.Fix{0, 1, one / 3, one / 2, one - 1, one} {
		for _, fixed := range l {
			for i := 1; i < len(l); i++ {
				if fix.Lerp(l[i-1], fixed, by) > fix.Lerp(l[i], fixed, by) {
					t.Fatalf("Lerp(a, %d, %d) falls from %d to %d", fixed, by, l[i-1], l[i])
				}
				if fix.Lerp(fixed, l[i-1], by) > fix.Lerp(fixed, l[i], by) {
					t.Fatalf("Lerp(%d, b, %d) falls from %d to %d", fixed, by, l[i-1], l[i])
				}
			}
		}
	}
}

// P1.5
func TestMulNeverFalls(t *testing.T) {
	l := numbers()
	slices.Sort(l)
	for _, by := range l {
		if by < 0 {
			continue
		}
		for i := 1; i < len(l); i++ {
			if fix.Mul(l[i-1], by) > fix.Mul(l[i], by) || fix.Mul(by, l[i-1]) > fix.Mul(by, l[i]) {
				t.Fatalf("Mul by %d falls from %d to %d", by, l[i-1], l[i])
			}
		}
	}
}

// P1.5
func TestRootSquares(t *testing.T) {
	check := func(a api.Fix) {
		r := fix.Root(a)
		if r < 0 || r*r > a*one || (r+1)*(r+1) <= a*one {
			t.Fatalf("Root(%d) = %d", a, r)
		}
	}
	for a := range 3 * one {
		check(a)
	}
	for _, a := range some(5000) {
		check(fix.Abs(a))
	}
	// Beside each square: there the root goes up by one.
	for whole := range api.Fix(182) {
		for off := api.Fix(-2); off <= 2; off++ {
			check(max(whole*whole*one+off, 0))
		}
	}
}
