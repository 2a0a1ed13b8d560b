package dice_test

import (
	"math"
	"testing"

	"zoetrope/api"
	"zoetrope/dice"
	"zoetrope/fix"
	"zoetrope/vec"
	"zoetrope/wave"
)

// v is a point of three numbers, in units.
func v(x, y, z api.Fix) api.Vec { return api.Vec{X: x, Y: y, Z: z} }

// numbers are what u and v can be: from 0 to One, at the ends, and beyond.
func numbers() []api.Fix {
	return []api.Fix{
		0, 1, 2, 777, one / 8, one / 4, one / 3, one / 2, one/2 + 1, 3 * one / 4, 54321, one - 1, one, one + 1, 3*one + 777,
		-1, -777, -one / 3, -one, most - 1, most, most + 777, -most, -most - 777, 1<<40 + 5, math.MaxInt64, math.MinInt64,
	}
}

// globeOf is the chapter's Globe, word by word.
func globeOf(u, v api.Fix) api.Vec {
	z := fix.Sub(one, fix.Mul(fix.Of(2), fix.Unit(u)))
	r := fix.Root(fix.Sub(one, fix.Mul(z, z)))
	return api.Vec{X: fix.Mul(r, wave.Cos(v)), Y: fix.Mul(r, wave.Sin(v)), Z: z}
}

// P4.3
func TestGlobe(t *testing.T) {
	rows := []struct {
		u, v api.Fix
		want api.Vec
	}{
		{0, 0, v(0, 0, one)}, {0, one / 3, v(0, 0, one)}, {one, 0, v(0, 0, -one)}, {one, 777, v(0, 0, -one)},
		{one / 2, 0, v(one, 0, 0)}, {one / 2, one / 4, v(0, one, 0)}, {one / 2, one / 2, v(-one, 0, 0)}, {one / 2, 3 * one / 4, v(0, -one, 0)}, {one / 2, one, v(one, 0, 0)},
		{one / 4, one / 8, v(40061, 40061, 32768)}, {one / 4, 5 * one / 8, v(-40062, -40062, 32768)},
		{1, 1, v(511, 0, 65534)}, {one - 1, one - 1, v(511, -1, -65534)}, {12345, 54321, v(24379, -45028, 40846)}, {50000, 20000, v(-19001, 52384, -34464)},
		{-1, 777, v(0, 0, one)}, {math.MinInt64, 777, v(0, 0, one)}, {one + 1, 777, v(0, 0, -one)}, {most, 5, v(0, 0, -one)}, {math.MaxInt64, 5, v(0, 0, -one)},
		{12345, 54321 - 3*one, v(24379, -45028, 40846)}, {12345, 54321 + 5*one, v(24379, -45028, 40846)}, {one / 2, most + one/4, v(one, 0, 0)}, {one / 2, math.MinInt64, v(one, 0, 0)},
	}
	for _, r := range rows {
		if got := dice.Globe(r.u, r.v); got != r.want {
			t.Errorf("Globe(%d, %d) = %v, not %v", r.u, r.v, got, r.want)
		}
	}
	for _, u := range numbers() {
		for _, around := range numbers() {
			if got, want := dice.Globe(u, around), globeOf(u, around); got != want {
				t.Errorf("Globe(%d, %d) = %v, not %v", u, around, got, want)
			}
		}
	}
}

// P4.3: each direction is near to One long.
func TestGlobeIsRound(t *testing.T) {
	k := dice.Key{Seed: 3}
	for i := range 5000 {
		a := dice.Globe(k.Unit(2*i), k.Unit(2*i+1))
		if n := vec.Len(a); n < one-200 || n > one+200 {
			t.Fatalf("%v is %d long", a, n)
		}
	}
}

// P4.3
func TestDome(t *testing.T) {
	rows := []struct {
		n    api.Vec
		u, v api.Fix
		want api.Vec
	}{
		{v(0, one, 0), 0, 0, v(0, 46341, 46341)}, {v(0, one, 0), one, 0, v(0, 46341, -46342)}, {v(0, one, 0), 12345, 54321, v(30844, 25946, 51678)}, {v(0, one, 0), one / 2, one / 2, v(-46342, 46341, 0)},
		{v(0, -one, 0), 12345, 54321, v(13274, -60202, 22240)}, {v(0, -one, 0), 50000, 20000, v(-30012, -20773, -54435)},
		{v(0, 0, one), 0, 0, v(0, 0, one)}, {v(0, 0, one), 12345, 54321, v(13532, -24995, 59052)}, {v(0, 0, -one), 50000, 20000, v(-10878, 29988, -57249)},
		{v(one, 0, 0), 50000, 20000, v(39056, 43965, -28926)}, {v(one/2, one/2, -one/2), 12345, 54321, v(63476, -13618, 8972)},
		{v(0, 0, 5*one), 50000, 20000, v(-4173, 11502, 64383)}, {v(0, 0, 5*one), one, 0, v(0, 0, one)},
		{v(most, 0, 0), 50000, 20000, v(11863178, 289, -191)}, {v(1<<62, math.MinInt64, 0), 12345, 54321, v(11863283, -11863284, 225)},
		{v(0, one, 0), -5, 0, v(0, 46341, 46341)}, {v(0, one, 0), math.MaxInt64, most + 9, v(0, 46341, -46342)}, {v(0, one, 0), 12345, 54321 - 3*one, v(30844, 25946, 51678)},
	}
	for _, r := range rows {
		if got := dice.Dome(r.n, r.u, r.v); got != r.want {
			t.Errorf("Dome(%v, %d, %d) = %v, not %v", r.n, r.u, r.v, got, r.want)
		}
	}
}

// P4.3: where the Dot isn't above 0, it is n, as it is.
func TestDomeIsItsDirection(t *testing.T) {
	rows := []struct {
		n    api.Vec
		u, v api.Fix
	}{
		// Just away from n, the sum is zero.
		{v(0, 0, one), one, 0}, {v(0, 0, -one), 0, 0}, {v(one, 0, 0), one / 2, one / 2}, {v(0, -one, 0), one / 2, one / 4},
		// Behind zero there is no side.
		{api.Vec{}, 0, 0}, {api.Vec{}, 12345, 54321}, {api.Vec{}, math.MinInt64, math.MaxInt64},
		// Of what is short, the products are rounded down.
		{v(1, 0, 0), 0, 0}, {v(1, 0, 0), 12345, 54321}, {v(0, 0, 1), one, 0}, {v(0, 0, -1), 0, 0}, {v(0, 0, -1), 12345, 54321},
		{v(-300, 0, 200), one, 0}, {v(-300, 0, 200), 50000, 20000},
	}
	for _, r := range rows {
		if got := dice.Dome(r.n, r.u, r.v); got != r.n {
			t.Errorf("Dome(%v, %d, %d) = %v", r.n, r.u, r.v, got)
		}
	}
	// The least ones above 0.
	if got := dice.Dome(v(0, 0, 1), 0, 0); got != v(0, 0, one+1) {
		t.Errorf("Dome of a short direction = %v", got)
	}
	if got := dice.Dome(v(-300, 0, 200), 0, 0); got != v(-300, 0, one) {
		t.Errorf("Dome of a short direction = %v", got)
	}
}

// directions are ones of all lengths.
func directions() []api.Vec {
	return []api.Vec{
		{}, v(1, 0, 0), v(0, -1, 0), v(0, 0, 1), v(-1, -1, -1), v(255, 256, -256), v(-300, 0, 200),
		v(one, 0, 0), v(0, one, 0), v(0, 0, one), v(-one, 0, 0), v(0, -one, 0), v(0, 0, -one), v(37837, -37837, 37837), v(one/2, one/3, -one/4),
		v(2*one, -one, 5), v(100*one, -3*one, 7*one), v(most, -most, most), v(-most, one, 0), v(math.MaxInt64, math.MinInt64, 3), v(0, math.MinInt64, 0),
	}
}

// P4.3: word by word, for directions of all lengths.
func TestDomeWordByWord(t *testing.T) {
	for _, n := range directions() {
		for _, u := range numbers() {
			for _, around := range numbers() {
				want := vec.Unit(vec.Add(globeOf(u, around), n))
				if vec.Dot(want, n) <= 0 {
					want = n
				}
				if got := dice.Dome(n, u, around); got != want {
					t.Fatalf("Dome(%v, %d, %d) = %v, not %v", n, u, around, got, want)
				}
			}
		}
	}
}
