package coat_test

import (
	"math"
	"testing"

	"zoetrope/api"
	"zoetrope/coat"
	"zoetrope/dice"
	"zoetrope/fix"
	"zoetrope/pose"
	"zoetrope/scene"
	"zoetrope/vec"
)

// ball and face are shapes in the world, of some paint.
func ball(middle api.Vec, radius api.Fix) pose.Placed {
	return pose.Placed{Kind: scene.Ball, Paint: 3, P: [3]api.Vec{middle}, Radius: radius}
}

func face(p, q, r api.Vec) pose.Placed {
	return pose.Placed{Kind: scene.Face, Paint: 3, P: [3]api.Vec{p, q, r}}
}

// P16.2: on a ball, high and low, and all around.
func TestSampleOfBalls(t *testing.T) {
	x := ball(ones(1, 2, 3), 2*one)
	rows := []struct {
		p    pose.Placed
		u, v api.Fix
		want api.Vec
	}{
		{x, 0, 0, ones(1, 2, 5)}, {x, 0, 777, ones(1, 2, 5)}, {x, one, 0, ones(1, 2, 1)}, {x, one / 2, 0, ones(3, 2, 3)}, {x, one / 2, one / 4, ones(1, 4, 3)},
		{x, one / 2, one / 2, ones(-1, 2, 3)}, {x, one / 2, 3 * one / 4, ones(1, 0, 3)}, {x, one / 4, one / 8, v(145658, 211194, 262144)},
		{x, -1, 5, ones(1, 2, 5)}, {x, math.MaxInt64, 5, ones(1, 2, 1)}, {x, one / 2, one + one/4, ones(1, 4, 3)}, {x, one / 2, -one / 4, ones(1, 0, 3)},
		{ball(ones(1, 2, 3), 0), one / 2, 0, ones(1, 2, 3)}, {ball(ones(1, 2, 3), 1), one / 2, 0, v(one+1, 2*one, 3*one)}, {ball(ones(1, 2, 3), 1), one / 2, one / 2, v(one-1, 2*one, 3*one)},
		{ball(v(most-5, -most+5, 0), one), one / 2, 0, v(most, -most+5, 0)}, {ball(v(0, 0, math.MinInt64), math.MaxInt64), 0, 0, v(0, 0, 0)},
		// Reckoned by another program.
		{ball(v(-42994, 201517, 53932), 296003), 62575, 2857, v(75319, 234953, -215324)},
		{ball(v(-329386, -348786, 111926), 210677), 35783, 58944, v(-160413, -472571, 92541)},
		{ball(v(17657, -131932, -19189), 7441), 62190, 538, v(20928, -131761, -25871)},
		{ball(v(-174960, -416970, 288416), 81590), 29341, 44034, v(-213213, -488450, 296948)},
		{ball(v(267464, -363058, -29374), 5719), 41595, 22252, v(264527, -358407, -30915)},
		{ball(v(193710, 286779, 19927), 191088), 28148, 20616, v(118902, 460421, 46868)},
	}
	for _, r := range rows {
		if got := coat.Sample(r.p, r.u, r.v); got != r.want {
			t.Errorf("%v by %d, %d: %v, not %v", r.p, r.u, r.v, got, r.want)
		}
	}
}

// P16.2: on a face, at its corners and edges; beyond One together both are turned round, at One they aren't.
func TestSampleOfFaces(t *testing.T) {
	a, b, c := ones(1, 1, 1), ones(5, 1, 1), ones(1, 1, -3)
	x := face(a, b, c)
	w := face(v(526291, -73829, -549490), v(-227229, -499189, -233216), v(-38107, -130089, 167379))
	rows := []struct {
		p    pose.Placed
		u, v api.Fix
		want api.Vec
	}{
		{x, 0, 0, a}, {x, one, 0, b}, {x, 0, one, c}, {x, one, one, a}, {x, one / 2, 0, ones(3, 1, 1)}, {x, 0, one / 2, ones(1, 1, -1)}, {x, one / 2, one / 2, ones(3, 1, -1)},
		{x, one / 4, one / 2, ones(2, 1, -1)}, {x, one / 4, 3 * one / 4, ones(2, 1, -2)}, {x, 3 * one / 4, one / 4, ones(4, 1, 0)}, {x, 3 * one / 4, 3 * one / 4, ones(2, 1, 0)}, {x, 3 * one / 4, one / 2, ones(2, 1, -1)},
		{x, one/4 + 1, 3 * one / 4, v(4*one-4, one, 0)}, {x, one, 1, v(one, one, -3*one+4)}, {x, 1, one, v(5*one-4, one, one)},
		{x, -5, math.MinInt64, a}, {x, one + 7, -7, b}, {x, -1, math.MaxInt64, c}, {x, math.MaxInt64, math.MaxInt64, a}, {x, math.MaxInt64, math.MinInt64, b},
		// Reckoned by another program.
		{w, one / 4, 3 * one / 4, v(-85388, -222364, 67229)}, {w, one/4 + 1, 3 * one / 4, v(-179938, -406908, -133073)}, {w, one / 4, 3*one/4 - 1, v(-85379, -222364, 67218)},
		{face(v(-164836, 508111, -507055), v(527697, -414392, -6042), v(-588809, -548734, 565383)), 12908, 35251, v(-256485, -242050, 168475)},
		{face(v(-180675, -365956, -339616), v(453984, 445905, 159882), v(-543052, -582327, -451820)), 33278, 55002, v(73467, -1123, -111791)},
		{face(v(-342261, 98671, 289864), v(424890, 196781, -91943), v(-167383, 49216, -255217)), 29188, 23909, v(63206, 124323, -79041)},
		{face(v(-226718, 222110, 150594), v(-436384, -278994, -531862), v(-162029, -287491, 275695)), 11906, 34608, v(-230649, -138036, 92673)},
		{face(v(16521, 307551, 116671), v(92194, 240622, -178911), v(112964, -65799, 374264)), 3229, 2499, v(23926, 290016, 111929)},
	}
	for _, r := range rows {
		if got := coat.Sample(r.p, r.u, r.v); got != r.want {
			t.Errorf("%v by %d, %d: %v, not %v", r.p, r.u, r.v, got, r.want)
		}
	}
}

// sampleOf is the chapter's Sample, word by word.
func sampleOf(p pose.Placed, u, v api.Fix) api.Vec {
	a, b, c := p.P[0], p.P[1], p.P[2]
	if p.Kind == scene.Ball {
		return vec.Sum(a, vec.Scale(dice.Globe(u, v), p.Radius))
	}
	u, v = fix.Unit(u), fix.Unit(v)
	if fix.Add(u, v) > one {
		u, v = fix.Sub(one, u), fix.Sub(one, v)
	}
	along := func(a, b, c api.Fix) api.Fix {
		return fix.Sum(a, fix.Mul(fix.Sub(b, a), u), fix.Mul(fix.Sub(c, a), v))
	}
	return api.Vec{X: along(a.X, b.X, c.X), Y: along(a.Y, b.Y, c.Y), Z: along(a.Z, b.Z, c.Z)}
}

// P16.2: word by word, for any balls, faces and numbers.
func TestSampleWordByWord(t *testing.T) {
	d := draw(2)
	for range 30000 {
		p := pose.Placed{Kind: d.below(2), Paint: d.below(3), P: [3]api.Vec{d.any(), d.any(), d.any()}, Radius: d.number()}
		u, around := d.number(), d.number()
		if d.below(2) == 0 {
			u, around = d.between(0, one-1), d.between(0, one-1)
		}
		if got, want := coat.Sample(p, u, around), sampleOf(p, u, around); got != want {
			t.Fatalf("%v by %d, %d: %v, not %v", p, u, around, got, want)
		}
	}
}

// P16.2: a point of a face lies in the box of its corners, but for what is rounded.
func TestSampleLiesOnItsFace(t *testing.T) {
	d := draw(8)
	for range 5000 {
		a, b, c := d.point(9*one), d.point(9*one), d.point(9*one)
		got := coat.Sample(face(a, b, c), d.between(0, one-1), d.between(0, one-1))
		low, high := vec.Sub(vec.Least(a, b, c), v(2, 2, 2)), vec.Greatest(a, b, c)
		if vec.Least(low, got) != low || vec.Greatest(high, got) != high {
			t.Fatalf("%v lies beside %v, %v, %v", got, a, b, c)
		}
	}
}

// reached is what Reach answers.
type reached struct {
	dir      api.Vec
	far, how api.Fix
}

func reach(at, n, lamp api.Vec) reached {
	dir, far, how := coat.Reach(at, n, lamp)
	return reached{dir, far, how}
}

// P16.2: the less, the farther a lamp is, and the more aslant; nothing from along the surface, from behind it, from the point itself.
func TestReach(t *testing.T) {
	at, up := ones(1, 1, 1), ones(0, 1, 0)
	rows := []struct {
		at, n, lamp api.Vec
		want        reached
	}{
		{at, up, ones(1, 3, 1), reached{up, 2 * one, 13107}}, {at, up, ones(1, 2, 1), reached{up, one, one / 2}}, {at, up, ones(1, 4, 1), reached{up, 3 * one, 6553}}, {at, up, v(one, one+one/2, one), reached{up, one / 2, 52428}},
		{at, up, ones(4, 5, 1), reached{v(39321, 52428, 0), 5 * one, 2016}}, {at, ones(0, 2, 0), ones(1, 2, 1), reached{up, one, one}}, {at, v(0, one/2, 0), ones(1, 2, 1), reached{up, one, one / 4}},
		{at, up, ones(3, 1, 1), reached{ones(1, 0, 0), 2 * one, 0}}, {at, up, ones(1, -1, 1), reached{ones(0, -1, 0), 2 * one, 0}}, {at, up, v(3*one, one+1, one), reached{ones(1, 0, 0), 2 * one, 0}},
		{at, up, v(3*one, one+2, one), reached{v(one, 1, 0), 2 * one, 0}}, {at, up, v(3*one, one+10, one), reached{v(one, 5, 0), 2 * one, 1}}, {at, up, v(3*one, one+8, one), reached{v(one, 4, 0), 2 * one, 0}},
		{at, up, at, reached{}}, {at, api.Vec{}, ones(1, 3, 1), reached{up, 2 * one, 0}}, {at, v(0, 1, 0), ones(1, 3, 1), reached{up, 2 * one, 0}}, {at, v(0, 5, 0), ones(1, 3, 1), reached{up, 2 * one, 1}},
		{at, up, v(one, one+255, one), reached{}}, {at, up, v(one, one+256, one), reached{up, 256, one - 1}},
		{at, up, ones(1, 182, 1), reached{up, 11862016, 2}}, {v(0, -most, 0), up, v(0, most, 0), reached{v(0, 11863283, 0), 11863283, 362}}, {v(0, math.MaxInt64, 0), up, v(0, math.MinInt64, 0), reached{v(0, -11863284, 0), 11863283, 0}},
		// Reckoned by another program.
		{v(181401, -290557, 193558), v(47228, 36879, 26538), v(-190546, -71133, 2343), reached{v(-51613, 30448, -26534), 472286, 0}},
		{v(22691, -72011, -22264), v(-52228, -9562, 38417), v(106418, -317334, 98739), reached{v(19181, -56202, 27720), 286068, 456}},
		{v(-168805, -319750, -104265), v(53020, 36724, 11630), v(309671, 298287, -184827), reached{v(39907, 51547, -6720), 785747, 414}},
		{v(317329, -81371, 90314), v(-58984, 21930, 18301), v(-40583, -311477, 154948), reached{v(-54501, -35040, 9842), 430380, 908}},
		{v(165, 22376, -68821), v(18950, -62589, 4311), v(-78536, -285178, 221645), reached{v(-11987, -46843, 44239), 430294, 1001}},
		{v(11889, 40136, -201365), v(-63547, 15951, -1562), v(-69611, -243247, 194194), reached{v(-10826, -37643, 52543), 493371, 1}},
		{v(-45840, 89223, 218504), v(-49542, 25453, 34536), v(-164472, -27397, 206560), reached{v(-46616, -45826, -4694), 166782, 2001}},
		{v(-311615, -98496, 42366), v(34611, 53116, 16603), v(-244536, 9459, 26560), reached{v(34324, 55240, -8088), 128076, 12626}},
	}
	for _, x := range rows {
		if got := reach(x.at, x.n, x.lamp); got != x.want {
			t.Errorf("from %v by %v to %v: %v, not %v", x.at, x.n, x.lamp, got, x.want)
		}
	}
}

// P16.2, P16.4: word by word, for any points and normals; what reaches is never below 0.
func TestReachWordByWord(t *testing.T) {
	d := draw(5)
	lit := 0
	for range 30000 {
		at, n, lamp := d.any(), d.any(), d.any()
		if d.below(3) > 0 {
			at, lamp = d.point(9*one), d.point(9*one)
		}
		way := vec.Sub(lamp, at)
		want := reached{dir: vec.Unit(way), far: vec.Len(way)}
		if s := vec.Dot(want.dir, n); s > 0 {
			want.how = fix.Div(s, fix.Add(one, fix.Mul(want.far, want.far)))
		}
		got := reach(at, n, lamp)
		if got != want || got.how < 0 {
			t.Fatalf("from %v by %v to %v: %v, not %v", at, n, lamp, got, want)
		}
		if got.how > 0 {
			lit++
		}
	}
	if lit < 5000 {
		t.Errorf("only %d were reached", lit)
	}
}
