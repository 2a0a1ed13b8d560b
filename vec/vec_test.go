package vec_test

import (
	"math"
	"slices"
	"testing"

	"zoetrope/api"
	"zoetrope/fix"
	"zoetrope/vec"
)

// The calls, with the signatures that the chapter tells.
var (
	_ func(x, y, z api.Fix) api.Vec         = vec.New
	_ func(a, b api.Vec) api.Vec            = vec.Add
	_ func(a, b api.Vec) api.Vec            = vec.Sub
	_ func(api.Vec) api.Vec                 = vec.Neg
	_ func(api.Vec, api.Fix) api.Vec        = vec.Scale
	_ func(a, b api.Vec, t api.Fix) api.Vec = vec.Mix
	_ func(...api.Vec) api.Vec              = vec.Sum
	_ func(a api.Vec, l ...api.Vec) api.Vec = vec.Least
	_ func(a api.Vec, l ...api.Vec) api.Vec = vec.Greatest
	_ func(a, b api.Vec) api.Fix            = vec.Dot
	_ func(a, b api.Vec) api.Vec            = vec.Cross
	_ func(api.Vec) api.Fix                 = vec.Len
	_ func(api.Vec) api.Vec                 = vec.Unit
	_ func(api.Vec, int) api.Fix            = vec.At
	_ func(api.Vec) int                     = vec.Widest
	_ func() vec.Mat                        = vec.Same
	_ func(api.Vec) vec.Mat                 = vec.Move
	_ func(api.Fix) vec.Mat                 = vec.Size
	_ func(vec.Mat, api.Vec) api.Vec        = vec.Mat.Dir
	_ func(vec.Mat, api.Vec) api.Vec        = vec.Mat.Point
	_ func(vec.Mat, vec.Mat) vec.Mat        = vec.Mat.Times
	_ func(...vec.Mat) vec.Mat              = vec.Chain
	_ struct{ X, Y, Z, T api.Vec }          = vec.Mat{}
)

const (
	one  = api.One
	most = api.Most
)

// v is a point of three numbers, in units.
func v(x, y, z api.Fix) api.Vec { return api.Vec{X: x, Y: y, Z: z} }

// ones is a point of three whole numbers.
func ones(x, y, z api.Fix) api.Vec { return v(x*one, y*one, z*one) }

// some are numbers of all sizes, the same ones in every run; about one in sixteen lies beyond the span.
func some(n int) []api.Fix {
	l := make([]api.Fix, n)
	state := uint64(1)
	for i := range l {
		state = state*6364136223846793005 + 1442695040888963407
		l[i] = api.Fix(int64(state)>>32) >> (state >> 16 % 32)
		if i%16 == 15 {
			l[i] *= 1 << 20
		}
	}
	return l
}

// points are points at the edges and some more.
func points() []api.Vec {
	l := []api.Vec{
		{}, ones(1, 0, 0), ones(0, 1, 0), ones(0, 0, 1), ones(1, -2, 2), ones(-3, 4, -5), ones(181, 182, -181),
		v(1, 1, 1), v(-1, -1, -1), v(1, -2, 3), v(one-1, one+1, -one-1), v(255, 256, -256),
		v(most, most, -most), v(-most, most, most), v(most, -most, most), v(most-1, 1-most, most),
		v(most+1, -most-1, 2*most), v(math.MaxInt64, math.MinInt64, 1), v(math.MinInt64, 0, math.MaxInt64),
	}
	n := some(120)
	for i := 0; i+2 < len(n); i += 3 {
		l = append(l, v(n[i], n[i+1], n[i+2]))
	}
	return l
}

// isVec tells whether what a call answers is what it must be.
func isVec(t *testing.T, name string, got, want api.Vec) {
	t.Helper()
	if got != want {
		t.Errorf("%s = %v, not %v", name, got, want)
	}
}

// isByNumber tells whether a call does the same to each pair of numbers.
func isByNumber(t *testing.T, name string, call func(a, b api.Vec) api.Vec, do func(x, y api.Fix) api.Fix) {
	t.Helper()
	l := points()
	for _, a := range l {
		for _, b := range l {
			want := v(do(a.X, b.X), do(a.Y, b.Y), do(a.Z, b.Z))
			if got := call(a, b); got != want {
				t.Fatalf("%s(%v, %v) = %v, not %v", name, a, b, got, want)
			}
		}
	}
}

// P2.1
func TestNew(t *testing.T) {
	isVec(t, "New", vec.New(1, 2, 3), v(1, 2, 3))
	isVec(t, "New beyond the span", vec.New(most+1, math.MinInt64, math.MaxInt64), v(most+1, math.MinInt64, math.MaxInt64))
}

// P2.1
func TestAddSub(t *testing.T) {
	isVec(t, "Add", vec.Add(v(1, 2, 3), v(10, -20, 30)), v(11, -18, 33))
	isVec(t, "Add held", vec.Add(v(most, -most, math.MaxInt64), v(1, -1, math.MaxInt64)), v(most, -most, most))
	isVec(t, "Sub", vec.Sub(v(1, 2, 3), v(10, -20, 30)), v(-9, 22, -27))
	isVec(t, "Sub held", vec.Sub(v(most, -most, 0), v(-1, 1, math.MinInt64)), v(most, -most, most))
	isByNumber(t, "Add", vec.Add, fix.Add)
	isByNumber(t, "Sub", vec.Sub, fix.Sub)
}

// P2.1
func TestNeg(t *testing.T) {
	isVec(t, "Neg", vec.Neg(v(1, -2, 0)), v(-1, 2, 0))
	isVec(t, "Neg held", vec.Neg(v(most+1, math.MinInt64, -most)), v(-most, most, most))
}

// P2.1
func TestScale(t *testing.T) {
	isVec(t, "Scale", vec.Scale(ones(1, -2, 3), 2*one), ones(2, -4, 6))
	isVec(t, "Scale down", vec.Scale(v(1, -1, 3), one/2), v(0, -1, 1))
	isVec(t, "Scale held", vec.Scale(v(most, -most, one), 2*one), v(most, -most, 2*one))
	isVec(t, "Scale by what is below 0", vec.Scale(v(1, -1, one), -one), v(-1, 1, -one))
	for _, s := range []api.Fix{0, 1, -1, one / 3, one, -one, 3 * one, most, -most, most + 1, math.MinInt64} {
		call := func(a, _ api.Vec) api.Vec { return vec.Scale(a, s) }
		isByNumber(t, "Scale", call, func(x, _ api.Fix) api.Fix { return fix.Mul(x, s) })
	}
}

// P2.1
func TestMix(t *testing.T) {
	isVec(t, "Mix", vec.Mix(ones(0, 2, -4), ones(4, 0, 4), one/4), v(one, 2*one-one/2, -2*one))
	isVec(t, "Mix at its beginning", vec.Mix(v(1, 2, 3), v(4, 5, 6), 0), v(1, 2, 3))
	isVec(t, "Mix at its end", vec.Mix(v(1, 2, 3), v(4, 5, 6), one), v(4, 5, 6))
	isVec(t, "Mix ahead of its beginning", vec.Mix(v(1, 2, 3), v(4, 5, 6), -one), v(1, 2, 3))
	isVec(t, "Mix behind its end", vec.Mix(v(1, 2, 3), v(4, 5, 6), 2*one), v(4, 5, 6))
	isVec(t, "Mix over the span", vec.Mix(v(-most, most, 0), v(most, -most, -1), one/2), v(0, 0, -1))
	for _, by := range []api.Fix{-1, 0, 1, one / 3, one / 2, one - 1, one, one + 1} {
		call := func(a, b api.Vec) api.Vec { return vec.Mix(a, b, by) }
		isByNumber(t, "Mix", call, func(x, y api.Fix) api.Fix { return fix.Lerp(x, y, by) })
	}
}

// P2.1
func TestSum(t *testing.T) {
	isVec(t, "Sum of nothing", vec.Sum(), api.Vec{})
	isVec(t, "Sum of an empty list", vec.Sum([]api.Vec{}...), api.Vec{})
	isVec(t, "Sum of one", vec.Sum(v(1, -2, 3)), v(1, -2, 3))
	isVec(t, "Sum of one beyond the span", vec.Sum(v(most+1, math.MinInt64, 3)), v(most, -most, 3))
	isVec(t, "Sum", vec.Sum(v(1, 2, 3), v(10, 20, 30), v(100, -200, 300)), v(111, -178, 333))
	isVec(t, "Sum in order", vec.Sum(v(most, -most, most), v(most, most, most), v(-most, most, -1)), v(0, most, most-1))
}

// P2.1
func TestLeastGreatest(t *testing.T) {
	a, b, c := v(1, -5, 9), v(2, -6, 9), v(0, 7, 10)
	isVec(t, "Least of one", vec.Least(a), a)
	isVec(t, "Greatest of one", vec.Greatest(a), a)
	isVec(t, "Least of one and an empty list", vec.Least(a, []api.Vec{}...), a)
	isVec(t, "Greatest of one and an empty list", vec.Greatest(a, []api.Vec{}...), a)
	isVec(t, "Least", vec.Least(a, b, c), v(0, -6, 9))
	isVec(t, "Greatest", vec.Greatest(a, b, c), v(2, 7, 10))
	isVec(t, "Least, the first one", vec.Least(v(-9, -9, -9), a, b), v(-9, -9, -9))
	isVec(t, "Greatest, the first one", vec.Greatest(v(99, 99, 99), a, b), v(99, 99, 99))
	isVec(t, "Least of what is above 0", vec.Least(v(3, 4, 5), v(5, 4, 3)), v(3, 4, 3))
	isVec(t, "Greatest of what is below 0", vec.Greatest(v(-3, -4, -5), v(-5, -4, -3)), v(-3, -4, -3))
	far, farther := v(most+1, -most-1, math.MaxInt64), v(most+2, -most-2, math.MinInt64)
	isVec(t, "Least beyond the span", vec.Least(far), far)
	isVec(t, "Least of two beyond the span", vec.Least(farther, far), v(most+1, -most-2, math.MinInt64))
	isVec(t, "Greatest beyond the span", vec.Greatest(far), far)
	isVec(t, "Greatest of two beyond the span", vec.Greatest(far, farther), v(most+2, -most-1, math.MaxInt64))
}

// R3: the lists that are handed in, and the room behind their ends, stay.
func TestListsStay(t *testing.T) {
	room := []api.Vec{v(most+3, 5, -5), v(1, 2, 3), v(-4, -5, -6), v(7, 8, 9)}
	kept := slices.Clone(room)
	vec.Sum(room[:2]...)
	vec.Least(room[3], room[:2]...)
	vec.Greatest(room[3], room[:2]...)
	if !slices.Equal(room, kept) {
		t.Errorf("a list is now %v", room)
	}
	mats := []vec.Mat{vec.Size(most + 3), vec.Move(v(1, 2, 3)), vec.Same()}
	keptMats := slices.Clone(mats)
	vec.Chain(mats[:2]...)
	if !slices.Equal(mats, keptMats) {
		t.Errorf("a list is now %v", mats)
	}
}

// P2.2
func TestDot(t *testing.T) {
	rows := []struct {
		a, b api.Vec
		want api.Fix
	}{
		{ones(1, 2, 3), ones(4, -5, 6), 12 * one}, {ones(1, 0, 0), ones(0, 1, 0), 0}, {api.Vec{}, ones(1, 2, 3), 0},
		{v(1, 1, 1), v(1, 1, 1), 0}, {v(1, 1, 1), v(-1, -1, -1), -3}, {v(one, 1, 0), v(1, one/2, 0), 1},
		{v(most, most, -most), ones(1, 1, 1), 0}, {v(-most, most, most), ones(1, 1, 1), most}, {v(most, -most, most), ones(1, 1, 1), most}, {v(-most, -most, most), ones(1, 1, 1), 0},
		{v(math.MaxInt64, math.MinInt64, 0), ones(1, 1, 1), 0}, {v(most, most, most), v(most, most, most), most}, {v(most, most, most), v(-most, -most, -most), -most},
	}
	for _, r := range rows {
		if got := vec.Dot(r.a, r.b); got != r.want {
			t.Errorf("Dot(%v, %v) = %d, not %d", r.a, r.b, got, r.want)
		}
	}
	for _, a := range points() {
		for _, b := range points() {
			want := fix.Add(fix.Add(fix.Mul(a.X, b.X), fix.Mul(a.Y, b.Y)), fix.Mul(a.Z, b.Z))
			if got := vec.Dot(a, b); got != want {
				t.Fatalf("Dot(%v, %v) = %d, not %d", a, b, got, want)
			}
		}
	}
}

// P2.2
func TestCross(t *testing.T) {
	isVec(t, "Cross of X and Y", vec.Cross(ones(1, 0, 0), ones(0, 1, 0)), ones(0, 0, 1))
	isVec(t, "Cross of Y and Z", vec.Cross(ones(0, 1, 0), ones(0, 0, 1)), ones(1, 0, 0))
	isVec(t, "Cross of Z and X", vec.Cross(ones(0, 0, 1), ones(1, 0, 0)), ones(0, 1, 0))
	isVec(t, "Cross of Y and X", vec.Cross(ones(0, 1, 0), ones(1, 0, 0)), ones(0, 0, -1))
	isVec(t, "Cross", vec.Cross(ones(1, 2, 3), ones(4, 5, 7)), ones(-1, 5, -3))
	isVec(t, "Cross rounded down", vec.Cross(v(1, 1, 1), v(1, -1, 1)), v(1, 0, -1))
	isVec(t, "Cross held", vec.Cross(v(0, most, most), v(0, -2*one, 2*one)), v(most, 0, 0))
	isVec(t, "Cross of products that are held", vec.Cross(v(0, most, most), ones(0, 2, 3)), v(0, 0, 0))
	isVec(t, "Cross with zero", vec.Cross(ones(1, 2, 3), api.Vec{}), api.Vec{})
	minus := func(a, b, c, d api.Fix) api.Fix { return fix.Sub(fix.Mul(a, b), fix.Mul(c, d)) }
	for _, a := range points() {
		for _, b := range points() {
			want := v(minus(a.Y, b.Z, a.Z, b.Y), minus(a.Z, b.X, a.X, b.Z), minus(a.X, b.Y, a.Y, b.X))
			if got := vec.Cross(a, b); got != want {
				t.Fatalf("Cross(%v, %v) = %v, not %v", a, b, got, want)
			}
		}
	}
}

// P2.2
func TestLen(t *testing.T) {
	rows := []struct {
		a    api.Vec
		want api.Fix
	}{
		{api.Vec{}, 0}, {ones(1, 0, 0), one}, {ones(0, -1, 0), one}, {ones(0, 0, 5), 5 * one}, {ones(3, 4, 0), 5 * one}, {ones(-1, 2, -2), 3 * one}, {ones(1, 1, 0), 92681},
		{v(1, 0, 0), 0}, {v(255, 0, 0), 0}, {v(256, 0, 0), 256}, {v(0, -256, 0), 256}, {v(255, 255, 255), 0}, {v(362, 0, 0), 256}, {v(363, 0, 0), 362},
		{v(most, 0, 0), 11863283}, {v(most, most, most), 11863283}, {v(math.MinInt64, math.MaxInt64, 0), 11863283}, {ones(181, 0, 0), 181 * one}, {ones(182, 0, 0), 11863283},
	}
	for _, r := range rows {
		if got := vec.Len(r.a); got != r.want {
			t.Errorf("Len(%v) = %d, not %d", r.a, got, r.want)
		}
	}
	for _, a := range points() {
		want := fix.Root(fix.Sum(fix.Mul(a.X, a.X), fix.Mul(a.Y, a.Y), fix.Mul(a.Z, a.Z)))
		if got := vec.Len(a); got != want {
			t.Errorf("Len(%v) = %d, not %d", a, got, want)
		}
	}
}

// P2.2
func TestUnit(t *testing.T) {
	isVec(t, "Unit of zero", vec.Unit(api.Vec{}), api.Vec{})
	isVec(t, "Unit of what has no length", vec.Unit(v(1, -255, 255)), api.Vec{})
	isVec(t, "Unit along an axis", vec.Unit(ones(0, -7, 0)), ones(0, -1, 0))
	isVec(t, "Unit", vec.Unit(ones(3, 0, -4)), v(one*3/5, 0, -52429))
	isVec(t, "Unit of the shortest", vec.Unit(v(256, -128, 1)), v(one, -one/2, 256))
	isVec(t, "Unit held", vec.Unit(v(most, -most, 0)), v(11863283, -11863284, 0))
	for _, a := range points() {
		n := vec.Len(a)
		want := v(fix.Div(a.X, n), fix.Div(a.Y, n), fix.Div(a.Z, n))
		if n == 0 {
			want = api.Vec{}
		}
		if got := vec.Unit(a); got != want {
			t.Errorf("Unit(%v) = %v, not %v", a, got, want)
		}
	}
}

// P2.2
func TestAt(t *testing.T) {
	a := v(5, -6, 7)
	for axis, want := range map[int]api.Fix{0: 5, 1: -6, 2: 7, 3: 7, 4: 7, -1: 7, -2: 7, math.MaxInt: 7, math.MinInt: 7} {
		if got := vec.At(a, axis); got != want {
			t.Errorf("At(%v, %d) = %d, not %d", a, axis, got, want)
		}
	}
}

// P2.2
func TestWidest(t *testing.T) {
	rows := []struct {
		a    api.Vec
		want int
	}{
		{api.Vec{}, 0}, {v(1, 1, 1), 0}, {v(-1, 1, 1), 0}, {v(1, -1, -1), 0}, {v(1, 2, 2), 1}, {v(1, -2, 2), 1}, {v(1, 2, -2), 1}, {v(2, 1, 2), 0}, {v(-2, 1, 2), 0},
		{v(3, 2, 1), 0}, {v(-3, 2, 1), 0}, {v(1, 3, 2), 1}, {v(1, -3, 2), 1}, {v(1, 2, 3), 2}, {v(1, 2, -3), 2}, {v(0, 0, -1), 2}, {v(0, -1, 0), 1},
		{v(most, -most, most), 0}, {v(most-1, -most, most), 1}, {v(1, math.MinInt64, 2), 1}, {v(1, 2, math.MinInt64), 2}, {v(1, 2, math.MaxInt64), 2},
	}
	for _, r := range rows {
		if got := vec.Widest(r.a); got != r.want {
			t.Errorf("Widest(%v) = %d, not %d", r.a, got, r.want)
		}
	}
}

// P2.4
func TestLeastGreatestBound(t *testing.T) {
	l := points()
	for i := range l {
		of := l[i:min(i+4, len(l))]
		least, greatest := vec.Least(of[0], of[1:]...), vec.Greatest(of[0], of[1:]...)
		for _, a := range of {
			if least.X > a.X || least.Y > a.Y || least.Z > a.Z {
				t.Errorf("Least of %v is %v", of, least)
			}
			if greatest.X < a.X || greatest.Y < a.Y || greatest.Z < a.Z {
				t.Errorf("Greatest of %v is %v", of, greatest)
			}
		}
	}
}

// P2.4
func TestMixLiesBetween(t *testing.T) {
	between := func(got, a, b api.Fix) bool {
		a, b = fix.Clamp(int64(a)), fix.Clamp(int64(b))
		return min(a, b) <= got && got <= max(a, b)
	}
	for _, by := range []api.Fix{-1, 0, 1, one / 3, one - 1, one, most} {
		for _, a := range points() {
			for _, b := range points() {
				got := vec.Mix(a, b, by)
				if !between(got.X, a.X, b.X) || !between(got.Y, a.Y, b.Y) || !between(got.Z, a.Z, b.Z) {
					t.Fatalf("Mix(%v, %v, %d) = %v", a, b, by, got)
				}
			}
		}
	}
}
