package box_test

import (
	"math"
	"slices"
	"testing"

	"zoetrope/api"
	"zoetrope/box"
	"zoetrope/fix"
	"zoetrope/pose"
)

// The calls, with the signatures that the chapter tells.
var (
	_ func(api.Vec, ...api.Vec) box.Box    = box.Of
	_ func(box.Box, ...box.Box) box.Box    = box.Join
	_ func(box.Box, api.Fix) box.Box       = box.Box.Wider
	_ func(box.Box, api.Vec) bool          = box.Box.Has
	_ func(b, c box.Box) bool              = box.Box.Holds
	_ func(b, c box.Box) bool              = box.Box.Meets
	_ func(box.Box) api.Vec                = box.Box.Middle
	_ func(box.Box) api.Vec                = box.Box.Size
	_ func(box.Box) api.Fix                = box.Box.Skin
	_ func(box.Pair, api.Fix) box.Box      = box.Pair.At
	_ func(box.Pair) box.Box               = box.Pair.Whole
	_ func(box.Pair, ...box.Pair) box.Pair = box.Both
	_ func(pose.Placed) box.Box            = box.Around
	_ func() box.Box                       = box.All
	_ func(pose.Moving) box.Pair           = box.Moving
	_ func(box.Pair, api.Vec) bool         = box.Pair.Has
	_ func(box.Pair) api.Fix               = box.Pair.Skin
	_ struct{ Low, High api.Vec }          = box.Box{}
	_ struct {
		box.Box
		To box.Box
	} = box.Pair{}
	_ [8192]struct{} = [box.Pad]struct{}{}
)

const (
	one  = api.One
	most = api.Most
)

// v is a point of three numbers, in units.
func v(x, y, z api.Fix) api.Vec { return api.Vec{X: x, Y: y, Z: z} }

// ones is a point of three whole numbers.
func ones(x, y, z api.Fix) api.Vec { return v(x*one, y*one, z*one) }

// of is a box of two corners, as they are.
func of(low, high api.Vec) box.Box { return box.Box{Low: low, High: high} }

// cube is a box about zero.
func cube(n api.Fix) box.Box { return of(v(-n, -n, -n), v(n, n, n)) }

// axes are a point's three numbers.
func axes(a api.Vec) [3]api.Fix { return [3]api.Fix{a.X, a.Y, a.Z} }

// draw is a list of numbers without any order in them, the same ones in every run.
type draw uint64

// below is the next of them, from 0 on, below n.
func (d *draw) below(n int) int {
	*d = *d*6364136223846793005 + 1442695040888963407
	return int(uint64(*d) >> 32 % uint64(n))
}

// between is the next of them, from one end to the other.
func (d *draw) between(from, to api.Fix) api.Fix { return from + api.Fix(d.below(int(to-from+1))) }

// point is a point of the next of them.
func (d *draw) point(far api.Fix) api.Vec {
	return v(d.between(-far, far), d.between(-far, far), d.between(-far, far))
}

// points are points at the edges and some more.
func points() []api.Vec {
	l := []api.Vec{
		{}, ones(1, 2, 3), ones(-1, 5, 3), v(1, -1, 1), v(-1, 1, -1), v(most, -most, 7), v(-most, most, most),
		v(most+1, math.MinInt64, math.MaxInt64), v(-most-1, math.MaxInt64, math.MinInt64),
	}
	d := draw(3)
	for range 24 {
		l = append(l, d.point(one<<d.below(16)))
	}
	return l
}

// boxes are boxes of such points, and some whose low corner isn't below the high one.
func boxes() []box.Box {
	p := points()
	l := []box.Box{{}, cube(1), cube(one), cube(most), of(ones(1, 1, 1), ones(-1, -1, -1)), of(v(-1, 2, -1), v(1, 1, 1))}
	for i := range p {
		l = append(l, of(p[i], p[(i*7+3)%len(p)]))
	}
	d := draw(5)
	for range 60 {
		a, by := d.point(4), v(d.between(0, 4), d.between(0, 4), d.between(0, 4))
		l = append(l, of(a, v(a.X+by.X, a.Y+by.Y, a.Z+by.Z)))
	}
	return l
}

// isBox tells whether what a call answers is what it must be.
func isBox(t *testing.T, name string, got, want box.Box) {
	t.Helper()
	if got != want {
		t.Errorf("%s = %v, not %v", name, got, want)
	}
}

// spans are of each axis the least and the greatest number of some points, by sorting.
func spans(l []api.Vec) box.Box {
	var n [3][]api.Fix
	for _, a := range l {
		for i, x := range axes(a) {
			n[i] = append(n[i], x)
		}
	}
	for i := range n {
		slices.Sort(n[i])
	}
	last := len(l) - 1
	return of(v(n[0][0], n[1][0], n[2][0]), v(n[0][last], n[1][last], n[2][last]))
}

// P11.1
func TestOf(t *testing.T) {
	isBox(t, "Of one", box.Of(v(1, -2, 3)), of(v(1, -2, 3), v(1, -2, 3)))
	isBox(t, "Of two", box.Of(v(1, -2, 3), v(-1, 5, 3)), of(v(-1, -2, 3), v(1, 5, 3)))
	isBox(t, "Of three", box.Of(v(4, 4, 4), v(1, 5, 9), v(2, -3, 6)), of(v(1, -3, 4), v(4, 5, 9)))
	isBox(t, "Of one and an empty list", box.Of(v(1, -2, 3), []api.Vec{}...), of(v(1, -2, 3), v(1, -2, 3)))
	isBox(t, "Of what is beyond the span", box.Of(v(math.MaxInt64, 0, -most-1), v(most+1, math.MinInt64, -most)), of(v(most+1, math.MinInt64, -most-1), v(math.MaxInt64, 0, -most)))
	l := points()
	for i := range l {
		for j := i + 1; j <= len(l); j++ {
			isBox(t, "Of some", box.Of(l[i], l[i+1:j]...), spans(l[i:j]))
		}
	}
}

// P11.1
func TestJoin(t *testing.T) {
	a, b, c := of(v(1, 2, 3), v(4, 5, 6)), of(v(-1, 3, 2), v(0, 9, 4)), of(v(7, -8, 5), v(8, -7, 5))
	isBox(t, "Join of one", box.Join(a), a)
	isBox(t, "Join of two", box.Join(a, b), of(v(-1, 2, 2), v(4, 9, 6)))
	isBox(t, "Join of three", box.Join(a, b, c), of(v(-1, -8, 2), v(8, 9, 6)))
	isBox(t, "Join, the other way round", box.Join(c, b, a), of(v(-1, -8, 2), v(8, 9, 6)))
	isBox(t, "Join of boxes turned round", box.Join(of(v(5, 5, 5), v(1, 1, 1)), of(v(4, 6, 9), v(2, 0, 3))), of(v(4, 5, 5), v(2, 1, 3)))
	l := boxes()
	for i := range l {
		some := l[i:min(i+5, len(l))]
		var lows, highs []api.Vec
		for _, b := range some {
			lows, highs = append(lows, b.Low), append(highs, b.High)
		}
		isBox(t, "Join of some", box.Join(some[0], some[1:]...), of(spans(lows).Low, spans(highs).High))
	}
}

// P11.1
func TestWider(t *testing.T) {
	b := of(v(1, -2, 3), v(4, 5, 6))
	isBox(t, "Wider by 0", b.Wider(0), b)
	isBox(t, "Wider", b.Wider(7), of(v(-6, -9, -4), v(11, 12, 13)))
	isBox(t, "Wider by what is below 0", b.Wider(-2), of(v(3, 0, 5), v(2, 3, 4)))
	isBox(t, "Wider, held", of(v(2-most, 1, -most), v(most-2, most, -1)).Wider(3), of(v(-most, -2, -most), v(most, most, 2)))
	isBox(t, "Wider by all", b.Wider(math.MaxInt64), of(v(1-most, -most, 3-most), v(most, most, most)))
	isBox(t, "Wider by what is far below", b.Wider(math.MinInt64), of(v(most, most-2, most), v(4-most, 5-most, 6-most)))
	isBox(t, "Wider, of what is beyond the span", of(v(math.MinInt64, 0, most+1), v(math.MaxInt64, -most-1, 0)).Wider(1), of(v(-most, -1, most-1), v(most, 1-most, 1)))
	for _, b := range boxes() {
		for _, by := range []api.Fix{0, 1, -1, box.Pad, most, most + 1, math.MinInt64} {
			low, high := b.Low, b.High
			want := of(v(fix.Sub(low.X, by), fix.Sub(low.Y, by), fix.Sub(low.Z, by)), v(fix.Add(high.X, by), fix.Add(high.Y, by), fix.Add(high.Z, by)))
			isBox(t, "Wider of some", b.Wider(by), want)
		}
	}
}

// P11.1: on each axis the six edges, one by one.
func TestHasAtItsEdges(t *testing.T) {
	b := of(v(1, -20, 300), v(4, -20, 310))
	rows := []struct {
		p    api.Vec
		want bool
	}{
		{v(1, -20, 300), true}, {v(4, -20, 310), true}, {v(2, -20, 305), true}, {v(1, -20, 310), true},
		{v(0, -20, 305), false}, {v(5, -20, 305), false}, {v(2, -21, 305), false}, {v(2, -19, 305), false}, {v(2, -20, 299), false}, {v(2, -20, 311), false},
		{v(math.MinInt64, -20, 305), false}, {v(2, math.MaxInt64, 305), false}, {v(0, 0, 0), false},
	}
	for _, r := range rows {
		if got := b.Has(r.p); got != r.want {
			t.Errorf("Has(%v) = %v", r.p, got)
		}
	}
}

// within tells on each axis whether a point is in a box.
func within(b box.Box, p api.Vec) bool {
	low, high := axes(b.Low), axes(b.High)
	for i, x := range axes(p) {
		if x < low[i] || x > high[i] {
			return false
		}
	}
	return true
}

// apart tells whether there is an axis on which one box ends ahead of where the other one begins.
func apart(b, c box.Box) bool {
	lowB, highB, lowC, highC := axes(b.Low), axes(b.High), axes(c.Low), axes(c.High)
	for i := range 3 {
		if highC[i] < lowB[i] || lowC[i] > highB[i] {
			return true
		}
	}
	return false
}

// P11.1: numbers beyond the span are looked at as they are.
func TestHasHoldsMeets(t *testing.T) {
	for _, b := range boxes() {
		for _, p := range points() {
			if b.Has(p) != within(b, p) {
				t.Fatalf("%v has %v: %v", b, p, b.Has(p))
			}
		}
		for _, c := range boxes() {
			if b.Has(c.Low) != within(b, c.Low) || b.Holds(c) != (within(b, c.Low) && within(b, c.High)) || b.Meets(c) == apart(b, c) {
				t.Fatalf("%v and %v: %v, %v, %v", b, c, b.Has(c.Low), b.Holds(c), b.Meets(c))
			}
		}
	}
}

// P11.1
func TestHoldsAtItsEdges(t *testing.T) {
	b := of(v(0, 10, 20), v(5, 15, 25))
	rows := []struct {
		c    box.Box
		want bool
	}{
		{b, true}, {of(v(1, 11, 21), v(4, 14, 24)), true}, {of(v(0, 10, 20), v(0, 10, 20)), true}, {of(v(5, 15, 25), v(0, 10, 20)), true}, {box.Box{}, false},
		{of(v(-1, 10, 20), v(5, 15, 25)), false}, {of(v(0, 9, 20), v(5, 15, 25)), false}, {of(v(0, 10, 19), v(5, 15, 25)), false},
		{of(v(0, 10, 20), v(6, 15, 25)), false}, {of(v(0, 10, 20), v(5, 16, 25)), false}, {of(v(0, 10, 20), v(5, 15, 26)), false},
		{of(v(6, 15, 25), v(0, 10, 20)), false}, {of(v(5, 15, 25), v(-1, 10, 20)), false},
	}
	for _, r := range rows {
		if got := b.Holds(r.c); got != r.want {
			t.Errorf("Holds(%v) = %v", r.c, got)
		}
	}
}

// P11.1: boxes that touch meet; it takes one axis alone to be apart.
func TestMeetsAtItsEdges(t *testing.T) {
	b := of(v(0, 10, 20), v(5, 15, 25))
	rows := []struct {
		c    box.Box
		want bool
	}{
		{b, true}, {of(v(5, 15, 25), v(9, 19, 29)), true}, {of(v(-9, 0, 0), v(0, 10, 20)), true}, {of(v(-9, -9, -9), v(99, 99, 99)), true}, {of(v(2, 12, 22), v(3, 13, 23)), true},
		{of(v(6, 10, 20), v(9, 15, 25)), false}, {of(v(0, 16, 20), v(5, 19, 25)), false}, {of(v(0, 10, 26), v(5, 15, 29)), false},
		{of(v(-9, 10, 20), v(-1, 15, 25)), false}, {of(v(0, 0, 20), v(5, 9, 25)), false}, {of(v(0, 10, 0), v(5, 15, 19)), false},
		{box.Box{}, false}, {of(v(most+1, 10, 20), v(math.MaxInt64, 15, 25)), false},
	}
	for _, r := range rows {
		if got := b.Meets(r.c); got != r.want || r.c.Meets(b) != r.want {
			t.Errorf("Meets(%v) = %v, the other way round %v", r.c, got, r.c.Meets(b))
		}
	}
}

// P11.2
func TestMiddleSizeSkin(t *testing.T) {
	rows := []struct {
		b            box.Box
		middle, size api.Vec
		skin         api.Fix
	}{
		{box.Box{}, v(0, 0, 0), v(0, 0, 0), 0},
		{of(ones(1, -2, 3), ones(3, 1, 8)), v(2*one, -one/2, 5*one+one/2), ones(2, 3, 5), 31 * one},
		{of(v(1, -2, -3), v(2, -1, 8)), v(1, -2, 2), v(1, 1, 11), 0},
		{of(v(0, 0, 0), v(one/2, 3, 5)), v(one/4, 1, 2), v(one/2, 3, 5), 1 + 2},
		{of(ones(3, 1, 8), ones(1, -2, 3)), v(2*one, -one/2, 5*one+one/2), ones(-2, -3, -5), 31 * one},
		{of(v(1, 0, 0), v(0, one/2, 0)), v(0, one/4, 0), v(-1, one/2, 0), -1},
		{cube(most), v(0, 0, 0), v(most, most, most), most},
		{of(v(0, 0, 0), ones(181, 181, 181)), v(181*one/2, 181*one/2, 181*one/2), ones(181, 181, 181), most},
		{of(v(0, 0, 0), v(30000*one, one, -one)), v(15000*one, one/2, -one/2), v(30000*one, one, -one), -one},
		{of(v(0, 0, 0), ones(400, 80, -100)), ones(200, 40, -50), ones(400, 80, -100), -8768 * one},
		{of(v(math.MinInt64, most+1, 0), v(math.MaxInt64, most+3, -most-1)), v(0, most, -most/2), v(most, 0, -most), -most},
	}
	for _, r := range rows {
		if r.b.Middle() != r.middle || r.b.Size() != r.size || r.b.Skin() != r.skin {
			t.Errorf("%v: about %v, wide %v, skin %d, not %v, %v, %d", r.b, r.b.Middle(), r.b.Size(), r.b.Skin(), r.middle, r.size, r.skin)
		}
	}
}

// P11.2: number by number, of all boxes.
func TestMiddleSizeSkinByDefinition(t *testing.T) {
	for _, b := range boxes() {
		low, high := b.Low, b.High
		middle := v(fix.Lerp(low.X, high.X, 32768), fix.Lerp(low.Y, high.Y, 32768), fix.Lerp(low.Z, high.Z, 32768))
		x, y, z := fix.Sub(high.X, low.X), fix.Sub(high.Y, low.Y), fix.Sub(high.Z, low.Z)
		skin := fix.Add(fix.Add(fix.Mul(x, y), fix.Mul(y, z)), fix.Mul(z, x))
		if b.Middle() != middle || b.Size() != v(x, y, z) || b.Skin() != skin {
			t.Errorf("%v: about %v, wide %v, skin %d", b, b.Middle(), b.Size(), b.Skin())
		}
	}
}

// R3: what is handed in stays, the room behind its end too.
func TestListsStay(t *testing.T) {
	p, b := points(), boxes()
	var l []box.Pair
	for i := range b {
		l = append(l, box.Pair{Box: b[i], To: b[len(b)-1-i]})
	}
	keptP, keptB, keptL := slices.Clone(p), slices.Clone(b), slices.Clone(l)
	box.Of(p[0], p[1:5]...)
	box.Join(b[0], b[1:5]...)
	box.Both(l[0], l[1:5]...)
	if !slices.Equal(p, keptP) || !slices.Equal(b, keptB) || !slices.Equal(l, keptL) {
		t.Error("a list was changed")
	}
}
