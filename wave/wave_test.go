package wave_test

import (
	"math"
	"testing"

	"zoetrope/api"
	"zoetrope/vec"
	"zoetrope/wave"
)

// The calls, with the signatures that the chapter tells.
var (
	_ func(api.Fix) api.Fix      = wave.Sin
	_ func(api.Fix) api.Fix      = wave.Cos
	_ func(api.Fix) api.Fix      = wave.Tan
	_ func(int, api.Fix) vec.Mat = wave.Turn
	_ func(api.Vec) vec.Mat      = wave.Turns
	_ func(api.Fix) api.Fix      = wave.Ease
)

const (
	one  = api.One
	most = api.Most
)

// v is a point of three numbers, in units.
func v(x, y, z api.Fix) api.Vec { return api.Vec{X: x, Y: y, Z: z} }

// isFix tells of each row what a call of one number answers, and what it must.
func isFix(t *testing.T, name string, call func(api.Fix) api.Fix, rows [][2]api.Fix) {
	t.Helper()
	for _, r := range rows {
		if got := call(r[0]); got != r[1] {
			t.Errorf("%s(%d) = %d, not %d", name, r[0], got, r[1])
		}
	}
}

// isMat tells whether what a call answers is what it must be.
func isMat(t *testing.T, name string, got, want vec.Mat) {
	t.Helper()
	if got != want {
		t.Errorf("%s = %v, not %v", name, got, want)
	}
}

// waveOf is the wave at a turn from 0 on, below One. None of what is divided is below 0, so that Go's division rounds down.
func waveOf(t int64) int64 {
	y := 2 * t % 65536
	p := y * (65536 - y) / 65536
	w := 16 * p * 65536 / (5*65536 - 4*p)
	if t >= 32768 {
		return -w
	}
	return w
}

// P3.1
func TestSin(t *testing.T) {
	isFix(t, "Sin", wave.Sin, [][2]api.Fix{
		{0, 0}, {1, 3}, {2, 9}, {100, 638}, {5000, 30245}, {one / 12, 32763}, {one / 8, 46260}, {one / 6, 56677}, {one/4 - 1, 65531}, {one / 4, one}, {one/4 + 1, 65531}, {one / 3, 56677}, {one/2 - 1, 3},
		{one / 2, 0}, {one/2 + 1, -3}, {40000, -41821}, {3*one/4 - 1, -65531}, {3 * one / 4, -one}, {one - 1, -3},
	})
	for turn := range one {
		want := api.Fix(waveOf(int64(turn)))
		for _, around := range []api.Fix{0, one, -one, 7 * one, -9 * one, most - one, -most} {
			if got := wave.Sin(turn + around); got != want {
				t.Fatalf("Sin(%d) = %d, not %d", turn+around, got, want)
			}
		}
	}
}

// P3.1: below 0, beyond a whole turn, beyond the span.
func TestSinOfAnyTurn(t *testing.T) {
	isFix(t, "Sin", wave.Sin, [][2]api.Fix{
		{-1, -3}, {-one / 4, -one}, {-5000, -30245}, {-3 * one / 4, one}, {5000 - 3*one, 30245}, {one, 0}, {one + 5000, 30245}, {-one, 0}, {7*one + 40000, -41821},
		{most - 1, -3}, {most, 0}, {1 - most, 3}, {-most, 0},
		{most + 1, 0}, {most + one/4, 0}, {-most - 1, 0}, {-most - one/4, 0}, {1<<40 + 5000, 0}, {math.MaxInt64, 0}, {math.MinInt64, 0},
	})
}

// P3.1
func TestCos(t *testing.T) {
	isFix(t, "Cos", wave.Cos, [][2]api.Fix{
		{0, one}, {1, 65531}, {2, 65531}, {100, 65531}, {5000, 58079}, {one / 8, 46260}, {one/4 - 1, 3}, {one / 4, 0}, {one/4 + 1, -3}, {one / 2, -one}, {40000, -50312}, {3 * one / 4, 0}, {one - 1, 65531},
		{-1, 65531}, {-one / 4, 0}, {-5000, 58079}, {-one / 2, -one}, {one, one}, {one + 5000, 58079}, {5000 - 3*one, 58079}, {7*one + 40000, -50312},
		{most - 1, 65531}, {most, one}, {1 - most, 65531}, {-most, one},
		{most + one/4, one}, {-most - one/4, one}, {1<<40 + 5000, one}, {math.MaxInt64, one}, {math.MinInt64, one},
	})
	for turn := range one {
		want := api.Fix(waveOf(int64(turn+one/4) % 65536))
		for _, around := range []api.Fix{0, one, -one, 7 * one, -9 * one, most - one, -most} {
			if got := wave.Cos(turn + around); got != want {
				t.Fatalf("Cos(%d) = %d, not %d", turn+around, got, want)
			}
		}
	}
}

// P3.1
func TestTan(t *testing.T) {
	isFix(t, "Tan", wave.Tan, [][2]api.Fix{
		{0, 0}, {1, 3}, {100, 638}, {5000, 34128}, {one / 8, one}, {one/4 - 1, 1431546538}, {one/4 + 1, -1431546539}, {3 * one / 8, -one}, {one / 2, 0}, {40000, 54475}, {7 * one / 8, -one},
		{-1, -4}, {-5000, -34129}, {-one / 8, -one}, {one + 5000, 34128}, {7*one + 40000, 54475},
		{most - 1, -4}, {most, 0}, {-most, 0}, {1 - most, 3}, {most + one/8, 0}, {math.MaxInt64, 0}, {math.MinInt64, 0},
	})
}

// P3.1: where Cos is 0, the quotient is the end on whose side Sin lies.
func TestTanByZero(t *testing.T) {
	isFix(t, "Tan", wave.Tan, [][2]api.Fix{
		{one / 4, most}, {3 * one / 4, -most}, {-one / 4, -most}, {-3 * one / 4, most}, {5 * one / 4, most}, {most - 3*one/4, most}, {one/4 - most, most},
	})
}

// P3.1: the quotient comes near to what it stands for, all around.
func TestWavesAreNear(t *testing.T) {
	for turn := range one {
		sin, cos := math.Sincos(2 * math.Pi * float64(turn) / float64(one))
		if got := float64(wave.Sin(turn)) / float64(one); math.Abs(got-sin) > 0.0017 {
			t.Fatalf("Sin(%d) = %g, far from %g", turn, got, sin)
		}
		if got := float64(wave.Cos(turn)) / float64(one); math.Abs(got-cos) > 0.0017 {
			t.Fatalf("Cos(%d) = %g, far from %g", turn, got, cos)
		}
	}
}

// thirds are whole numbers that name the third axis.
func thirds() []int { return []int{2, 3, 4, -1, -2, math.MaxInt, math.MinInt} }

// P3.2
func TestTurn(t *testing.T) {
	const s, c = 30245, 58079
	isMat(t, "Turn about 0", wave.Turn(0, 5000), vec.Mat{X: v(one, 0, 0), Y: v(0, c, s), Z: v(0, -s, c)})
	isMat(t, "Turn about 1", wave.Turn(1, 5000), vec.Mat{X: v(c, 0, -s), Y: v(0, one, 0), Z: v(s, 0, c)})
	for _, axis := range thirds() {
		isMat(t, "Turn about any other", wave.Turn(axis, 5000), vec.Mat{X: v(c, s, 0), Y: v(-s, c, 0), Z: v(0, 0, one)})
	}
	for _, axis := range append(thirds(), 0, 1) {
		isMat(t, "Turn by nothing", wave.Turn(axis, 0), vec.Same())
		isMat(t, "Turn all around", wave.Turn(axis, one), vec.Same())
		isMat(t, "Turn beyond the span", wave.Turn(axis, most+5000), vec.Same())
		isMat(t, "Turn below the span", wave.Turn(axis, math.MinInt64), vec.Same())
		isMat(t, "Turn beyond a whole one", wave.Turn(axis, one+5000), wave.Turn(axis, 5000))
		isMat(t, "Turn below 0", wave.Turn(axis, 5000-one), wave.Turn(axis, 5000))
	}
}

// P3.2: a quarter of a turn takes each axis to the next one.
func TestTurnTakesAxes(t *testing.T) {
	x, y, z := v(one, 0, 0), v(0, one, 0), v(0, 0, one)
	rows := []struct {
		axis     int
		from, to api.Vec
	}{
		{0, x, x}, {0, y, z}, {0, z, v(0, -one, 0)},
		{1, y, y}, {1, z, x}, {1, x, v(0, 0, -one)},
		{2, z, z}, {2, x, y}, {2, y, v(-one, 0, 0)},
	}
	for _, r := range rows {
		if got := wave.Turn(r.axis, one/4).Dir(r.from); got != r.to {
			t.Errorf("%v, turned about %d, is %v, not %v", r.from, r.axis, got, r.to)
		}
	}
}

// P3.2
func TestTurns(t *testing.T) {
	isMat(t, "Turns by nothing", wave.Turns(api.Vec{}), vec.Same())
	isMat(t, "Turns about 0", wave.Turns(v(5000, 0, 0)), wave.Turn(0, 5000))
	isMat(t, "Turns about 1", wave.Turns(v(0, 5000, 0)), wave.Turn(1, 5000))
	isMat(t, "Turns about 2", wave.Turns(v(0, 0, 5000)), wave.Turn(2, 5000))
	isMat(t, "Turns beyond the span", wave.Turns(v(most+5000, math.MinInt64, math.MaxInt64)), vec.Same())
	for _, by := range []api.Vec{
		v(5000, 10000, 20000), v(-5000, 40000, 1), v(one/3, one/5, one/7), v(7*one+11, -3*one-13, one/2+17), v(most-1, 1-most, most/3), v(one/4, one/4, one/4),
	} {
		isMat(t, "Turns", wave.Turns(by), vec.Chain(wave.Turn(0, by.X), wave.Turn(1, by.Y), wave.Turn(2, by.Z)))
	}
}

// P3.2: what is turned is turned about the third axis first.
func TestTurnsInOrder(t *testing.T) {
	x, y, z := v(one, 0, 0), v(0, one, 0), v(0, 0, one)
	const q = one / 4
	rows := []struct{ by, from, to api.Vec }{
		{v(q, 0, q), x, z}, {v(q, 0, q), z, v(0, -one, 0)},
		{v(q, q, 0), z, x}, {v(q, q, 0), x, y},
		{v(0, q, q), y, z}, {v(0, q, q), x, y},
		{v(q, q, q), x, z}, {v(q, q, q), y, v(0, -one, 0)}, {v(q, q, q), z, x},
	}
	for _, r := range rows {
		if got := wave.Turns(r.by).Point(r.from); got != r.to {
			t.Errorf("%v, turned by %v, is %v, not %v", r.from, r.by, got, r.to)
		}
	}
}

// P3.3
func TestEase(t *testing.T) {
	isFix(t, "Ease", wave.Ease, [][2]api.Fix{
		{0, 0}, {1, 0}, {200, 0}, {300, 2}, {1000, 44}, {one / 4, 10240}, {one / 3, 16989}, {one / 2, one / 2}, {3 * one / 4, 55296}, {one - 200, 65533}, {one - 1, 65535}, {one, one},
		{-1, 0}, {-one, 0}, {-most - 1, 0}, {math.MinInt64, 0},
		{one + 1, one}, {2 * one, one}, {most, one}, {most + 1, one}, {math.MaxInt64, one},
	})
	for u := range int64(one) {
		want := api.Fix((u * u / 65536) * (3*65536 - 2*u) / 65536)
		if got := wave.Ease(api.Fix(u)); got != want {
			t.Fatalf("Ease(%d) = %d, not %d", u, got, want)
		}
	}
}

// P3.4
func TestSinLiesAndTurns(t *testing.T) {
	isFix(t, "Sin", wave.Sin, [][2]api.Fix{{0, 0}, {one / 2, 0}, {one / 4, one}})
	for _, from := range []api.Fix{-most, -one, 0, one, most - 2*one} {
		for turn := from; turn < from+one; turn++ {
			got := wave.Sin(turn)
			if got < -one || got > one {
				t.Fatalf("Sin(%d) = %d", turn, got)
			}
			if on := wave.Sin(turn + one/2); on != -got {
				t.Fatalf("Sin(%d) = %d, half a turn on it is %d", turn, got, on)
			}
		}
	}
}

// P3.4
func TestEaseLies(t *testing.T) {
	isFix(t, "Ease", wave.Ease, [][2]api.Fix{{0, 0}, {one, one}})
	for u := -one; u <= 2*one; u++ {
		if got := wave.Ease(u); got < 0 || got > one {
			t.Fatalf("Ease(%d) = %d", u, got)
		}
	}
}
