package box_test

import (
	"math"
	"testing"

	"zoetrope/api"
	"zoetrope/box"
	"zoetrope/fix"
	"zoetrope/pose"
	"zoetrope/scene"
)

// pair is a box, and what it is at last.
func pair(b, to box.Box) box.Pair { return box.Pair{Box: b, To: to} }

// pairs are pairs of all boxes.
func pairs() []box.Pair {
	b := boxes()
	var l []box.Pair
	for i := range b {
		l = append(l, pair(b[i], b[(i*11+5)%len(b)]))
	}
	return l
}

// parts are shares of a shutter's time, those ahead of it and behind it too.
func parts() []api.Fix {
	return []api.Fix{math.MinInt64, -1, 0, 1, one / 3, one / 2, one - 1, one, one + 1, math.MaxInt64}
}

// mixed is a point on the way from a to b.
func mixed(a, b api.Vec, part api.Fix) api.Vec {
	return v(fix.Lerp(a.X, b.X, part), fix.Lerp(a.Y, b.Y, part), fix.Lerp(a.Z, b.Z, part))
}

// isPair tells whether what a call answers is what it must be.
func isPair(t *testing.T, name string, got, want box.Pair) {
	t.Helper()
	if got != want {
		t.Errorf("%s = %v, not %v", name, got, want)
	}
}

// P11.2
func TestAtWhole(t *testing.T) {
	p := pair(of(ones(0, 1, 2), ones(4, 5, 6)), of(ones(8, -3, 2), ones(16, 5, 7)))
	isBox(t, "At 0", p.At(0), p.Box)
	isBox(t, "At a quarter", p.At(one/4), of(ones(2, 0, 2), v(7*one, 5*one, 6*one+one/4)))
	isBox(t, "At a half", p.At(one/2), of(ones(4, -1, 2), v(10*one, 5*one, 6*one+one/2)))
	isBox(t, "At One", p.At(one), p.To)
	isBox(t, "At less than 0", p.At(-one), p.Box)
	isBox(t, "At more than One", p.At(3*one), p.To)
	isBox(t, "At, rounded down", pair(of(v(0, 0, 0), v(1, 1, 1)), of(v(-1, 1, -3), v(2, 0, 4))).At(one/2), of(v(-1, 0, -2), v(1, 0, 2)))
	isBox(t, "At, of what is beyond the span", pair(cube(math.MaxInt64), cube(most+1)).At(one/2), cube(most))
	isBox(t, "Whole", p.Whole(), of(ones(0, -3, 2), ones(16, 5, 7)))
	isBox(t, "Whole of what doesn't move", pair(cube(3), cube(3)).Whole(), cube(3))
	for _, p := range pairs() {
		for _, part := range parts() {
			isBox(t, "At", p.At(part), of(mixed(p.Low, p.To.Low, part), mixed(p.High, p.To.High, part)))
		}
		isBox(t, "Whole", p.Whole(), of(spans([]api.Vec{p.Low, p.To.Low}).Low, spans([]api.Vec{p.High, p.To.High}).High))
	}
}

// P11.2
func TestBoth(t *testing.T) {
	a, b := pair(of(v(1, 2, 3), v(4, 5, 6)), of(v(10, 20, 30), v(40, 50, 60))), pair(of(v(-1, 3, 2), v(0, 9, 4)), of(v(11, 18, 31), v(39, 51, 59)))
	isPair(t, "Both of one", box.Both(a), a)
	isPair(t, "Both", box.Both(a, b), pair(of(v(-1, 2, 2), v(4, 9, 6)), of(v(10, 18, 30), v(40, 51, 60))))
	l := pairs()
	for i := range l {
		some := l[i:min(i+6, len(l))]
		var first, last []box.Box
		for _, p := range some {
			first, last = append(first, p.Box), append(last, p.To)
		}
		isPair(t, "Both of some", box.Both(some[0], some[1:]...), pair(box.Join(first[0], first[1:]...), box.Join(last[0], last[1:]...)))
	}
}

// P11.3
func TestAll(t *testing.T) {
	isBox(t, "All", box.All(), of(v(-1<<31, -1<<31, -1<<31), v(1<<31, 1<<31, 1<<31)))
}

// ball and face are shapes in the world; what isn't a kind's own is there too, so that it would be seen if it counted.
func ball(middle api.Vec, radius api.Fix) pose.Placed {
	return pose.Placed{Kind: scene.Ball, P: [3]api.Vec{middle, ones(-900, 900, 7), ones(800, -800, 9)}, Radius: radius}
}

func face(a, b, c api.Vec) pose.Placed {
	return pose.Placed{Kind: scene.Face, P: [3]api.Vec{a, b, c}, Radius: 500 * one}
}

// P11.3
func TestAround(t *testing.T) {
	x := one + one/8
	isBox(t, "Around the example's ball", box.Around(pose.Placed{Radius: one}), of(v(-x, -x, -x), v(x, x, x)))
	isBox(t, "Around a ball", box.Around(ball(ones(1, -2, 3), 2*one)), of(v(one-2*one-8192, -4*one-8192, one-8192), v(3*one+8192, 8192, 5*one+8192)))
	isBox(t, "Around a ball without a radius", box.Around(ball(v(1, 2, 3), 0)), of(v(-8191, -8190, -8189), v(8193, 8194, 8195)))
	isBox(t, "Around a ball of less than that", box.Around(ball(v(1, 2, 3), -8192)), of(v(1, 2, 3), v(1, 2, 3)))
	isBox(t, "Around a ball, held", box.Around(ball(v(most-one, 3-most, 0), one)), of(v(most-2*one-8192, -most, -one-8192), v(most, 3-most+one+8192, one+8192)))
	isBox(t, "Around a ball whose radius is held", box.Around(ball(v(5, -5, 0), math.MaxInt64)), of(v(5-most, -most, -most), v(most, most-5, most)))
	isBox(t, "Around a ball of a radius far below", box.Around(ball(v(5, -5, 0), math.MinInt64)), of(v(most-8192+5, most-8192-5, most-8192), v(8192-most+5, 8192-most-5, 8192-most)))
	isBox(t, "Around a face", box.Around(face(v(1, 2, 3), v(-5, 20, 1), v(0, 0, 9))), of(v(-8197, -8192, -8191), v(8193, 8212, 8201)))
	isBox(t, "Around a face without a size", box.Around(face(v(1, 2, 3), v(1, 2, 3), v(1, 2, 3))), of(v(-8191, -8190, -8189), v(8193, 8194, 8195)))
	isBox(t, "Around a face, held", box.Around(face(v(most, 0, 0), v(0, -most, 0), v(0, 0, math.MaxInt64))), of(v(-8192, -most, -8192), v(most, 8192, most)))
	for _, kind := range []int{-1, 2, math.MaxInt, math.MinInt} {
		p := face(v(1, 2, 3), v(-5, 20, 1), v(0, 0, 9))
		p.Kind = kind
		isBox(t, "Around another kind", box.Around(p), of(v(-8197, -8192, -8191), v(8193, 8212, 8201)))
	}
}

// moving is a shape that moves.
func moving(a, b pose.Placed) pose.Moving { return pose.Moving{A: a, B: b} }

// P11.3: both ends, the last one as of the first one's kind.
func TestMoving(t *testing.T) {
	b, c := ball(ones(1, -2, 3), 2*one), ball(ones(9, 9, 9), one)
	f := face(v(1, 2, 3), v(-5, 20, 1), v(0, 0, 9))
	aroundB, aroundC, aroundF := box.Around(b), box.Around(c), box.Around(f)
	isPair(t, "a ball", box.Moving(moving(b, c)), pair(aroundB, aroundC))
	isPair(t, "a face", box.Moving(moving(f, f)), pair(aroundF, aroundF))
	x := api.Fix(500*one + 8192)
	isPair(t, "a ball that becomes a face", box.Moving(moving(b, f)), pair(aroundB, of(v(1-x, 2-x, 3-x), v(1+x, 2+x, 3+x))))
	isPair(t, "a face that becomes a ball", box.Moving(moving(f, b)), pair(aroundF, of(v(-900*one-8192, -800*one-8192, 3*one-8192), v(800*one+8192, 900*one+8192, 9*one+8192))))
	other := f
	other.Kind = 5
	isPair(t, "another kind that becomes a ball", box.Moving(moving(other, b)), box.Moving(moving(f, b)))
}

// P11.3: where a number of one of the boxes comes to an end of the span, the pair is all of it; one unit less it isn't.
func TestMovingIsAll(t *testing.T) {
	all := pair(box.All(), box.All())
	rest := face(v(0, 0, 0), v(1, 1, 1), v(2, 2, 2))
	edge := most - 8192
	axis := []func(n api.Fix) api.Vec{
		func(n api.Fix) api.Vec { return v(n, 0, 0) }, func(n api.Fix) api.Vec { return v(0, n, 0) }, func(n api.Fix) api.Vec { return v(0, 0, n) },
	}
	for _, at := range axis {
		for corner := range 3 {
			for _, n := range []api.Fix{edge, -edge, edge + 1, -edge - 1, most, -most, most + 1, math.MaxInt64, math.MinInt64} {
				p := rest
				p.P[corner] = at(n)
				isPair(t, "a face that begins at an end", box.Moving(moving(p, rest)), all)
				isPair(t, "a face that ends at an end", box.Moving(moving(rest, p)), all)
			}
			for _, n := range []api.Fix{edge - 1, 1 - edge} {
				p := rest
				p.P[corner] = at(n)
				isPair(t, "a face near an end", box.Moving(moving(p, rest)), pair(box.Around(p), box.Around(rest)))
				isPair(t, "a face that goes near an end", box.Moving(moving(rest, p)), pair(box.Around(rest), box.Around(p)))
			}
		}
		home := ball(v(0, 0, 0), one)
		for _, n := range []api.Fix{edge - one, one - edge, most, -most, math.MaxInt64, math.MinInt64} {
			p := ball(at(n), one)
			isPair(t, "a ball that begins at an end", box.Moving(moving(p, home)), all)
			isPair(t, "a ball that ends at an end", box.Moving(moving(home, p)), all)
		}
		for _, n := range []api.Fix{edge - one - 1, one - edge + 1} {
			p := ball(at(n), one)
			isPair(t, "a ball near an end", box.Moving(moving(p, home)), pair(box.Around(p), box.Around(home)))
			isPair(t, "a ball that goes near an end", box.Moving(moving(home, p)), pair(box.Around(home), box.Around(p)))
		}
	}
}

// P11.3: a radius that comes to an end of the span with the Pad does so too.
func TestMovingOfWideShapes(t *testing.T) {
	all := pair(box.All(), box.All())
	home := ball(v(0, 0, 0), one)
	for _, r := range []api.Fix{most - 8192, most - 8191, most, most + 1, math.MaxInt64} {
		isPair(t, "a ball that begins so wide", box.Moving(moving(ball(v(0, 0, 0), r), home)), all)
		isPair(t, "a ball that ends so wide", box.Moving(moving(home, ball(v(0, 0, 0), r))), all)
		f, wide := face(v(0, 0, 0), v(1, 1, 1), v(2, 2, 2)), face(v(0, 0, 0), v(1, 1, 1), v(2, 2, 2))
		wide.Radius = r
		isPair(t, "a face that begins so wide", box.Moving(moving(wide, f)), all)
		isPair(t, "a face that ends so wide", box.Moving(moving(f, wide)), all)
	}
	r := api.Fix(most - 8193)
	isPair(t, "a ball that is nearly so wide", box.Moving(moving(ball(v(0, 0, 0), r), home)), pair(cube(most-1), box.Around(home)))
	isPair(t, "a ball that becomes nearly so wide", box.Moving(moving(home, ball(v(0, 0, 0), r))), pair(box.Around(home), cube(most-1)))
	isPair(t, "a ball of a radius below 0", box.Moving(moving(ball(v(0, 0, 0), -one), home)), pair(cube(8192-one), box.Around(home)))
	isPair(t, "a ball of a radius far below", box.Moving(moving(ball(v(0, 0, 0), math.MinInt64), home)), pair(cube(8192-most), box.Around(home)))
	isPair(t, "a ball far out, turned round", box.Moving(moving(ball(v(most-one+8192, 0, 0), -one), home)), all)
}

// P11.3: what is held of one kind counts, what isn't looked at doesn't.
func TestMovingLooksAtItsOwn(t *testing.T) {
	b := pose.Placed{Kind: scene.Ball, P: [3]api.Vec{{}, v(most, most, most), v(-most, math.MinInt64, 0)}, Radius: one}
	isPair(t, "a ball with corners far out", box.Moving(moving(b, b)), pair(box.Around(b), box.Around(b)))
	f := b
	f.Kind = scene.Face
	isPair(t, "a ball that becomes a face with corners far out", box.Moving(moving(b, f)), pair(box.Around(b), box.Around(b)))
	isPair(t, "a face that becomes a ball with corners far out", box.Moving(moving(face(v(0, 0, 0), v(0, 0, 0), v(0, 0, 0)), b)), pair(box.All(), box.All()))
}

// rightPair is a pair of the span of layer 1, whose low corners aren't above its high ones.
func rightPair(d *draw, far api.Fix) box.Pair {
	return pair(box.Of(d.point(far), d.point(far)), box.Of(d.point(far), d.point(far)))
}

// P11.4
func TestBothHoldsAllTheTime(t *testing.T) {
	d := draw(11)
	for round := range 600 {
		far := []api.Fix{3, 40, one, 300 * one, most}[round%5]
		l := make([]box.Pair, 1+d.below(6))
		for i := range l {
			l[i] = rightPair(&d, far)
		}
		if round%7 == 0 {
			l[0].Box = cube(far)
		}
		both := box.Both(l[0], l[1:]...)
		for _, p := range l {
			if !both.Holds(p.Box) || !both.To.Holds(p.To) {
				t.Fatalf("%v isn't held by %v", p, both)
			}
			for _, part := range append(parts(), d.between(0, one), d.between(0, one)) {
				if !both.At(part).Holds(p.At(part)) || !both.Whole().Holds(p.At(part)) {
					t.Fatalf("at %d %v isn't held by %v", part, p.At(part), both.At(part))
				}
			}
		}
	}
}

// shape is a shape without any order in it, of one of both kinds.
func (d *draw) shape(far api.Fix) pose.Placed {
	return pose.Placed{Kind: d.below(2), P: [3]api.Vec{d.point(far), d.point(far), d.point(far)}, Radius: d.between(0, far)}
}

// P11.3, P11.4: what moves is held by its pair, but for what rounding takes: the Pad is far wider than that.
func TestMovingHoldsWhatMoves(t *testing.T) {
	d := draw(13)
	for round := range 2000 {
		far := []api.Fix{3, one, 300 * one, most / 2, most}[round%5]
		m := moving(d.shape(far), d.shape(far))
		p := box.Moving(m)
		for _, part := range append(parts(), d.between(0, one), d.between(0, one)) {
			at := m.At(part)
			bare := box.Of(at.P[0], at.P[1:]...)
			if at.Kind == scene.Ball {
				bare = box.Of(at.P[0]).Wider(at.Radius)
			}
			if !p.At(part).Holds(bare) {
				t.Fatalf("%v at %d: %v isn't held by %v", m, part, bare, p.At(part))
			}
		}
	}
}
