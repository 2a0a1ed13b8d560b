package pose_test

import (
	"math"
	"testing"

	"zoetrope/api"
	"zoetrope/fix"
	"zoetrope/pose"
	"zoetrope/scene"
)

// parts are shares of a shutter's time, those ahead of it and behind it too.
func parts() []api.Fix {
	return []api.Fix{math.MinInt64, -one, -1, 0, 1, one / 3, one / 2, one - 1, one, one + 1, most, math.MaxInt64}
}

// anyPlaced are shapes in the world, of all sizes.
func anyPlaced() []pose.Placed {
	l := []pose.Placed{
		{}, placedBall(3, ones(1, -2, 3), one), placedFace(1, v(1, 2, 3), v(-4, 5, -6), v(7, -8, 9)),
		placedBall(-1, v(most, -most, 1), most), placedFace(7, v(-most, most, -1), v(most, most, most), v(-most, -most, -most)),
	}
	d := draw(7)
	for range 40 {
		far := one << d.below(16)
		p := pose.Placed{Kind: d.below(2), Paint: d.below(9), P: [3]api.Vec{d.point(far), d.point(far), d.point(far)}, Radius: d.between(0, far)}
		l = append(l, p)
	}
	return l
}

// atOf is a moving shape at a part, number by number.
func atOf(m pose.Moving, part api.Fix) pose.Placed {
	p := pose.Placed{Kind: m.A.Kind, Paint: m.A.Paint, Radius: fix.Lerp(m.A.Radius, m.B.Radius, part)}
	for i := range 3 {
		a, b := m.A.P[i], m.B.P[i]
		p.P[i] = v(fix.Lerp(a.X, b.X, part), fix.Lerp(a.Y, b.Y, part), fix.Lerp(a.Z, b.Z, part))
	}
	return p
}

// P10.2
func TestAt(t *testing.T) {
	from := pose.Placed{Kind: scene.Ball, Paint: 3, P: [3]api.Vec{ones(1, -2, 3), v(1, 2, 3), v(0, 0, 1)}, Radius: one}
	to := pose.Placed{Kind: scene.Face, Paint: 5, P: [3]api.Vec{ones(5, 2, -5), v(4, -5, 6), v(0, 0, 0)}, Radius: 3*one + 1}
	m := pose.Moving{A: from, B: to}
	rows := []struct {
		part api.Fix
		want pose.Placed
	}{
		{one / 4, pose.Placed{Paint: 3, P: [3]api.Vec{ones(2, -1, 1), v(1, 0, 3), v(0, 0, 0)}, Radius: one + one/2}},
		{one / 2, pose.Placed{Paint: 3, P: [3]api.Vec{ones(3, 0, -1), v(2, -2, 4), v(0, 0, 0)}, Radius: 2 * one}},
		{one - 1, pose.Placed{Paint: 3, P: [3]api.Vec{v(5*one-4, 2*one-4, -5*one+8), v(3, -5, 5), v(0, 0, 0)}, Radius: 3*one - 2}},
	}
	for _, r := range rows {
		if got := m.At(r.part); got != r.want {
			t.Errorf("at %d: %v, not %v", r.part, got, r.want)
		}
	}
	if got := (pose.Moving{A: to, B: from}).At(one / 2); got != (pose.Placed{Kind: scene.Face, Paint: 5, P: [3]api.Vec{ones(3, 0, -1), v(2, -2, 4), v(0, 0, 0)}, Radius: 2 * one}) {
		t.Errorf("the other way round: %v", got)
	}
}

// P10.2, P10.3: at its ends a moving shape is A and B, but for the kind and the paint, which are A's all the time; between them its numbers lie between.
func TestAtLiesBetween(t *testing.T) {
	between := func(n, a, b api.Fix) bool { return min(a, b) <= n && n <= max(a, b) }
	for _, a := range anyPlaced() {
		for _, b := range anyPlaced() {
			m := pose.Moving{A: a, B: b}
			last := pose.Placed{Kind: a.Kind, Paint: a.Paint, P: b.P, Radius: b.Radius}
			for _, part := range parts() {
				got := m.At(part)
				if got != atOf(m, part) || part <= 0 && got != a || part >= one && got != last {
					t.Fatalf("%v, at %d: %v", m, part, got)
				}
				for i := range 3 {
					p, x, y := got.P[i], a.P[i], b.P[i]
					if !between(p.X, x.X, y.X) || !between(p.Y, x.Y, y.Y) || !between(p.Z, x.Z, y.Z) {
						t.Fatalf("%v, at %d: the corner %d is %v", m, part, i, p)
					}
				}
				if !between(got.Radius, a.Radius, b.Radius) {
					t.Fatalf("%v, at %d: the radius is %d", m, part, got.Radius)
				}
			}
		}
	}
}

// P10.2: numbers beyond the span are taken as layer 1 takes them.
func TestAtBeyondTheSpan(t *testing.T) {
	far := pose.Placed{P: [3]api.Vec{v(math.MaxInt64, math.MinInt64, most+1), v(-most-1, 0, 0)}, Radius: math.MaxInt64}
	held := pose.Placed{P: [3]api.Vec{v(most, -most, most), v(-most, 0, 0)}, Radius: most}
	for _, part := range parts() {
		if got := (pose.Moving{A: far, B: far}).At(part); got != held {
			t.Errorf("at %d: %v", part, got)
		}
	}
}

// P10.2: all shapes, as the frame's shutter opens and as it shuts.
func TestFrame(t *testing.T) {
	for n, s := range scenes(t) {
		for f := range s.Frames {
			l := pose.Frame(s, f)
			if len(l) != len(s.Shapes) {
				t.Fatalf("scene %d, frame %d: %d shapes", n, f, len(l))
			}
			open := api.Fix(f) * 65536
			for i := range l {
				want := pose.Moving{A: placedOf(s, i, open), B: placedOf(s, i, open+s.Shutter)}
				if l[i] != want {
					t.Fatalf("scene %d, frame %d: the shape %d moves by %v, not %v", n, f, i, l[i], want)
				}
			}
		}
	}
}

// P10.2: the ends of what a shutter may be.
func TestShutters(t *testing.T) {
	s := usual()
	s.Shutter = 0
	for f := range s.Frames {
		for i, m := range pose.Frame(s, f) {
			if m.A != m.B || m.A != placedOf(s, i, api.Fix(f)*one) {
				t.Errorf("frame %d: the shape %d moves by %v", f, i, m)
			}
		}
	}
	s.Shutter = one
	for f := range s.Frames - 1 {
		l, next := pose.Frame(s, f), pose.Frame(s, f+1)
		if len(l) != len(s.Shapes) {
			t.Errorf("frame %d: %d shapes", f, len(l))
		}
		for i := range l {
			if l[i].B != next[i].A {
				t.Errorf("frame %d: the shape %d moves by %v, but then by %v", f, i, l[i], next[i])
			}
		}
	}
}

// P10.2: there are frames from 0 on, below Frames.
func TestNoSuchFrame(t *testing.T) {
	for _, s := range scenes(t) {
		for _, f := range []int{math.MinInt, -1, s.Frames, s.Frames + 1, 1 << 50, math.MaxInt} {
			if l := pose.Frame(s, f); len(l) != 0 {
				t.Errorf("of %d frames, the frame %d: %v", s.Frames, f, l)
			}
		}
	}
}
