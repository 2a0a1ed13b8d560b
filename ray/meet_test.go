package ray_test

import (
	"math"
	"testing"

	"zoetrope/api"
	"zoetrope/box"
	"zoetrope/fix"
	"zoetrope/pose"
	"zoetrope/ray"
	"zoetrope/scene"
	"zoetrope/vec"
)

// isHit tells whether a ray's test of a shape answers what it must; what isn't met is told by a zero hit.
func isHit(t *testing.T, r ray.Ray, m pose.Moving, near, far api.Fix, want ray.Hit) {
	t.Helper()
	if got, ok := r.Test(m, near, far); got != want || ok != (want != ray.Hit{}) {
		t.Errorf("%v of %v, behind %d, up to %d: %v, %v, not %v", r, m, near, far, got, ok, want)
	}
}

// P12.2: the chapter's ball, at the ends of where it is looked for: first it is met where the ray goes in, else where it goes out.
func TestNearAndFar(t *testing.T) {
	r, m := from(ones(0, 0, -4), ones(0, 0, 1)), still(ball(api.Vec{}, one))
	in, out := hit(3*one, ones(0, 0, -1), ones(0, 0, -1)), hit(5*one, ones(0, 0, 1), ones(0, 0, -1))
	rows := []struct {
		near, far api.Fix
		want      ray.Hit
	}{
		{0, most, in}, {ray.Near, most, in}, {3*one - 1, most, in}, {3*one - 1, 3 * one, in}, {-most, 3 * one, in}, {math.MinInt64, math.MaxInt64, in}, {0, most + 1, in},
		{3 * one, most, out}, {3*one + 1, most, out}, {5*one - 1, most, out}, {3 * one, 5 * one, out}, {5*one - 1, 5 * one, out},
		{5 * one, most, ray.Hit{}}, {5*one + 1, most, ray.Hit{}}, {most, most, ray.Hit{}}, {math.MaxInt64, math.MaxInt64, ray.Hit{}},
		{0, 3*one - 1, ray.Hit{}}, {3 * one, 5*one - 1, ray.Hit{}}, {0, 0, ray.Hit{}}, {0, -most, ray.Hit{}}, {most, 0, ray.Hit{}}, {4 * one, 3 * one, ray.Hit{}}, {0, math.MinInt64, ray.Hit{}},
	}
	for _, x := range rows {
		isHit(t, r, m, x.near, x.far, x.want)
	}
	wall := still(face(ones(-2, -2, -1), ones(2, -2, -1), ones(0, 2, -1)))
	isHit(t, r, wall, 3*one-1, 3*one, in)
	isHit(t, r, wall, 3*one, most, ray.Hit{})
	isHit(t, r, wall, 0, 3*one-1, ray.Hit{})
	isHit(t, from(ones(0, 0, 2), ones(0, 0, 1)), wall, math.MinInt64, 0, hit(-3*one, ones(0, 0, -1), ones(0, 0, -1)))
}

// P12.2: near and far are held against the place as they are, also beyond the span; a hit may lie at the span's end.
func TestEndsOfTheSpan(t *testing.T) {
	m := still(face(ones(-45, -45, 0), ones(45, -45, 0), ones(-45, 45, 0)))
	back, ahead := from(ones(-20, -20, 1), v(0, 0, 2)), from(ones(-20, -20, 1), v(0, 0, -2))
	n := v(0, 0, 2932513) // The length of what it is made of is held, so that it is longer than One.
	atLow, atHigh := hit(-most, ones(-20, -20, 0), vec.Neg(n)), hit(most, ones(-20, -20, 0), n)
	isHit(t, back, m, -most-1, most, atLow)
	isHit(t, back, m, math.MinInt64, math.MaxInt64, atLow)
	isHit(t, back, m, -most-1, -most, atLow)
	isHit(t, back, m, -most, most, ray.Hit{})
	isHit(t, back, m, math.MinInt64, -most-1, ray.Hit{})
	isHit(t, ahead, m, 0, most, atHigh)
	isHit(t, ahead, m, most-1, most+1, atHigh)
	isHit(t, ahead, m, most-1, math.MaxInt64, atHigh)
	isHit(t, ahead, m, 0, most-1, ray.Hit{})
	isHit(t, ahead, m, most, most+1, ray.Hit{})
}

// P12.2: of a ball within that a ray begins the normal looks inward; where a ray begins, it meets nothing.
func TestBallsBySight(t *testing.T) {
	m := still(ball(ones(1, 0, 0), 2*one))
	isHit(t, from(ones(1, 0, 0), ones(0, 1, 0)), m, 0, most, hit(2*one, ones(1, 2, 0), ones(0, -1, 0)))
	isHit(t, from(ones(1, 0, 0), ones(0, 1, 0)), m, -most, most, hit(-2*one, ones(1, -2, 0), ones(0, -1, 0)))
	isHit(t, from(ones(-1, 0, 0), ones(1, 0, 0)), m, 0, most, hit(4*one, ones(3, 0, 0), ones(-1, 0, 0)))
	isHit(t, from(ones(3, 0, 0), ones(1, 0, 0)), m, 0, most, ray.Hit{})
	isHit(t, from(ones(5, 0, 0), ones(1, 0, 0)), m, 0, most, ray.Hit{})
	isHit(t, from(ones(5, 0, 0), ones(-2, 0, 0)), m, 0, most, hit(one, ones(3, 0, 0), ones(1, 0, 0)))
	isHit(t, from(ones(5, 0, 0), v(-one/2, 0, 0)), m, 0, most, hit(4*one, ones(3, 0, 0), ones(1, 0, 0)))
	isHit(t, from(ones(5, 3, 0), ones(-1, 0, 0)), m, 0, most, ray.Hit{})
	isHit(t, from(ones(5, 2, 0), ones(-1, 0, 0)), m, 0, most, hit(4*one, ones(1, 2, 0), ones(0, 1, 0)))
}

// P12.2: rays without a direction, or with one whose square is rounded away, meet no ball; one of a ball's own middle has no normal.
func TestBallsWithout(t *testing.T) {
	m := still(ball(api.Vec{}, one))
	for _, dir := range []api.Vec{{}, v(255, 0, 0), v(255, -255, 255), v(0, -128, 1)} {
		isHit(t, from(v(one/2, 0, 0), dir), m, -most, most, ray.Hit{})
	}
	// The square of this one is a unit.
	isHit(t, from(v(one/4, 0, 0), v(256, 0, 0)), m, 0, most, hit(192*one, v(one, 0, 0), v(-one, 0, 0)))
	isHit(t, from(ones(-2, 0, 0), ones(1, 0, 0)), still(ball(api.Vec{}, 0)), 0, most, hit(2*one, api.Vec{}, api.Vec{}))
	isHit(t, from(ones(-2, 0, 0), ones(1, 0, 0)), still(ball(api.Vec{}, 2)), 0, most, hit(2*one, api.Vec{}, api.Vec{}))
	isHit(t, from(ones(-2, 0, 0), ones(1, 0, 0)), still(ball(api.Vec{}, 256)), 0, most, hit(2*one-256, v(-256, 0, 0), v(-one, 0, 0)))
}

// P12.2: balls that move, reckoned by another program.
func TestBalls(t *testing.T) {
	rows := []struct {
		r    ray.Ray
		a, b pose.Placed
		want ray.Hit
	}{
		{ray.Ray{From: v(104407, -111155, 296193), Dir: v(52316, -56309, 69017), Part: 0}, ball(v(130814, 243834, 25216), 42537), ball(v(154323, 233414, -24900), 15934), ray.Hit{}},
		{ray.Ray{From: v(61323, -103235, 129289), Dir: v(49376, -103779, 109713), Part: 32768}, ball(v(-43209, 94014, 33445), 143879), ball(v(-13275, 76162, 17515), 2262), ray.Hit{}},
		{ray.Ray{From: v(-129486, -340551, 49109), Dir: v(57516, 90254, 2999), Part: 21845}, ball(v(184636, -32414, 135890), 161797), ball(v(137053, 31729, 91041), 146424), hit(193225, v(40092, -74448, 57951), v(-53827, -26526, -26348))},
		{ray.Ray{From: v(53727, -380797, 156067), Dir: v(90987, 35936, -42639), Part: 21845}, ball(v(186945, -240939, -29647), 192835), ball(v(202915, -285590, -74386), 178142), hit(65143, v(144168, -345077, 113683), v(-16774, -31124, 55181))},
		{ray.Ray{From: v(277018, -243835, 9535), Dir: v(-108496, 105125, 87779), Part: 32768}, ball(v(36039, -165082, 193593), 194342), ball(v(93610, -229577, 137522), 156042), hit(42072, v(207367, -176349, 65886), v(53322, 7848, -37285))},
		{ray.Ray{From: v(133245, -246968, -246829), Dir: v(127902, -22828, 61616), Part: 0}, ball(v(243735, -257486, -45658), 196247), ball(v(286782, -304046, -70079), 24988), hit(19782, v(171852, -253859, -228231), v(-24006, 1211, -60970))},
		{ray.Ray{From: v(55097, -216359, -256083), Dir: v(123481, 16010, -7665), Part: 32768}, ball(v(79554, -175665, -181582), 148390), ball(v(49555, -179220, -132894), 101319), hit(38731, v(128072, -206898, -260613), v(-33340, 15462, 54263))},
		{ray.Ray{From: v(-47228, 51825, 16770), Dir: v(1430, 78227, 42872), Part: 65536}, ball(v(-117807, -96501, -71113), 48961), ball(v(-158300, -40220, -26506), 153969), hit(3559, v(-47151, 56073, 19098), v(-47310, -40987, -19411))},
		{ray.Ray{From: v(-100910, 93727, 231744), Dir: v(-116718, 87375, -78621), Part: 21845}, ball(v(-36934, -23971, 209337), 149409), ball(v(-54884, -17991, 255227), 110943), hit(3561, v(-107253, 98474, 227472), v(30870, -57795, -1362))},
		{ray.Ray{From: v(-145712, -247561, -11723), Dir: v(-4276, 27236, -87697), Part: 0}, ball(v(-204377, -193345, 142913), 191804), ball(v(-186997, -202504, 121968), 61885), hit(16502, v(-146789, -240703, -33806), v(-19676, 16182, 60383))},
	}
	for _, x := range rows {
		isHit(t, x.r, pose.Moving{A: x.a, B: x.b}, 0, most, x.want)
	}
}

// P12.2: balls at their edges, reckoned by another program: those that a ray touches, or doesn't by a unit; those met at the second root, for the first one's point lies outside of the box; those whose roots both do; one whose point lies at the end of the box, and one a unit beyond it.
func TestBallsAtTheirEdges(t *testing.T) {
	rows := []struct {
		from, dir api.Vec
		p         pose.Placed
		want      ray.Hit
	}{
		{v(27573, 59454, -196608), v(0, 0, 65536), ball(v(0, 0, 0), 65536), hit(196608, v(27573, 59454, 0), v(27573, 59454, 0))},
		{v(8117, 65032, -196608), v(0, 0, 65536), ball(v(0, 0, 0), 65536), hit(196608, v(8117, 65032, 0), v(8117, 65032, 0))},
		{v(-50241, -42083, -196608), v(0, 0, 65536), ball(v(0, 0, 0), 65536), ray.Hit{}},
		{v(-40185, -51771, -196608), v(0, 0, 65536), ball(v(0, 0, 0), 65536), ray.Hit{}},
		{v(-76962, 211634, -75102), v(-687, -1482, 1799), ball(v(-191483, -192546, 248426), 127546), hit(16463526, v(-249546, -160665, 376831), v(26337, -14460, -58243))},
		{v(-132629, 69001, -122336), v(566, -143, 149), ball(v(-50943, 75027, 37275), 127595), hit(24559616, v(79479, 15411, -66499), v(-48287, 22073, 38422))},
		{v(64764, -16817, 39381), v(1374, -1527, 1246), ball(v(197941, -228212, 165749), 47415), hit(8931185, v(252011, -224916, 209184), v(-51035, -3111, -40997))},
		{v(81297, -145201, -52684), v(-1508, -700, 1523), ball(v(-141314, -223239, 221305), 60315), hit(12461325, v(-205442, -278303, 236906), v(48897, 41986, -11895))},
		{v(-71384, -189864, -128477), v(437, 561, 466), ball(v(14204630, 17779732, 3903871), 63150), ray.Hit{}},
		{v(-19357913, 16556297, 1532889), v(241, -266, 465), ball(v(7869370, -104692, 19455774), 122487), ray.Hit{}},
		{v(-5088048, 22345704, -8694714), v(-198, -1221, 300), ball(v(-196813, 11509, -93853), 38557), ray.Hit{}},
		{v(202473, -58240, 180015), v(-1283, 454, -1319), ball(v(17728, 39876, -19883), 4272), ray.Hit{}},
		{v(-133607, 213966, -129983), v(167, -269, -281), ball(v(-61702, 174014, -135498), 38559), hit(12189696, v(-102545, 163932, -182249), v(42561, 10507, 48718))},
		{v(133069, 46974, 186108), v(226, 404, -594), ball(v(196783, 109727, 210482), 106469), ray.Hit{}},
	}
	for _, x := range rows {
		isHit(t, from(x.from, x.dir), still(x.p), 0, most, x.want)
	}
}

// P12.2: a face is met from both sides, at its edges and corners too; a ray along it doesn't meet it.
func TestFacesBySight(t *testing.T) {
	m := still(face(ones(0, 0, 0), ones(2, 0, 0), ones(0, 2, 0)))
	up, down := ones(0, 0, 1), ones(0, 0, -1)
	rows := []struct {
		x, y api.Fix
		met  bool
	}{
		{one / 2, one / 2, true}, {0, 0, true}, {2 * one, 0, true}, {0, 2 * one, true}, {one, one, true}, {one, 0, true}, {0, one, true},
		{-1, one, false}, {one, -1, false}, {one + 2, one, false}, {one, one + 2, false}, {2 * one, 2, false}, {2 * one, 2 * one, false}, {-one, -one, false},
	}
	for _, r := range rows {
		want, other := hit(3*one, v(r.x, r.y, 0), down), hit(3*one, v(r.x, r.y, 0), up)
		if !r.met {
			want, other = ray.Hit{}, ray.Hit{}
		}
		isHit(t, from(v(r.x, r.y, -3*one), up), m, 0, most, want)
		isHit(t, from(v(r.x, r.y, 3*one), down), m, 0, most, other)
		isHit(t, from(v(r.x, r.y, 3*one), up), m, 0, most, ray.Hit{})
	}
	// The square of what this one's normal is made of is held.
	isHit(t, from(ones(0, 0, -4), up), still(face(ones(-9, -9, -1), ones(9, -9, -1), ones(0, 9, -1))), 0, most, hit(3*one, ones(0, 0, -1), v(0, 0, -117300)))
	isHit(t, from(ones(-3, 0, 0), ones(1, 0, 0)), m, 0, most, ray.Hit{})
	isHit(t, from(ones(1, 1, -3), api.Vec{}), m, -most, most, ray.Hit{})
	isHit(t, from(ones(0, 0, -3), up), still(face(ones(0, 0, 0), ones(2, 0, 0), ones(1, 0, 0))), -most, most, ray.Hit{})
}

// P12.2: faces that move, reckoned by another program.
func TestFaces(t *testing.T) {
	rows := []struct {
		r    ray.Ray
		a, b pose.Placed
		want ray.Hit
	}{
		{ray.Ray{From: v(-121596, -306290, 131913), Dir: v(-35895, 8015, 110759), Part: 65536}, face(v(-164792, 207102, -150910), v(15794, -138980, -226329), v(16653, 108987, -227558)), face(v(-172469, 213801, -111942), v(59294, -198684, -212564), v(-38627, 164777, -239004)), ray.Hit{}},
		{ray.Ray{From: v(-283695, 113927, -270335), Dir: v(-4485, 129282, 119014), Part: 0}, face(v(-204016, -241562, 15030), v(239531, -195398, -78122), v(-246343, -247784, -119729)), face(v(-170999, -216712, 72277), v(279072, -139401, -76258), v(-186211, -272929, -137672)), ray.Hit{}},
		{ray.Ray{From: v(304292, 388147, 214789), Dir: v(43464, 54133, -76179), Part: 0}, face(v(-151988, -3812, 63043), v(-180911, -139001, -53270), v(-138212, -176675, -44226)), face(v(-171876, -10862, 15497), v(-138914, -186987, -100737), v(-178969, -203432, -83023)), ray.Hit{}},
		{ray.Ray{From: v(99609, -79282, -178279), Dir: v(126051, -44991, 118100), Part: 21845}, face(v(-202446, 51546, -223698), v(193959, -171737, -246204), v(188133, 60612, -25896)), face(v(-241169, 109001, -284730), v(202388, -142902, -182995), v(134753, 58459, -60994)), ray.Hit{}},
		{ray.Ray{From: v(9303, -133408, -119666), Dir: v(43568, 11941, 40453), Part: 21845}, face(v(-252627, -34187, -16772), v(-54590, -182407, 72753), v(248329, -28238, -233486)), face(v(-220860, -91733, 14797), v(5049, -218477, 77311), v(214713, -52631, -215850)), hit(92534, v(70819, -116548, -62549), v(-17105, -48397, -40743))},
		{ray.Ray{From: v(-46695, 69154, 146006), Dir: v(114897, -59286, -64727), Part: 21845}, face(v(84495, 179452, -248296), v(-156643, -244386, -37328), v(206880, 89884, 186926)), face(v(67805, 171521, -258994), v(-103787, -261992, 2211), v(230299, 143060, 152182)), hit(76913, v(88148, -425, 70042), v(-49602, 36906, 21740))},
		{ray.Ray{From: v(159842, -295662, 359365), Dir: v(-4075, 99831, -107705), Part: 0}, face(v(172035, 70218, 247721), v(-116927, 171739, -102256), v(233418, 95190, -147388)), face(v(190046, 15295, 234545), v(-66021, 143308, -144636), v(173674, 93032, -190287)), hit(265700, v(143320, 109078, -77300), v(-14699, -63556, -6301))},
		{ray.Ray{From: v(-119415, -44483, 134456), Dir: v(-83300, -9782, 27967), Part: 0}, face(v(-56847, -107553, 15630), v(-23339, 55570, 25655), v(-253492, -129044, 258353)), face(v(-8711, -148490, 23694), v(38954, 24520, 78995), v(-195953, -111643, 310833)), hit(16745, v(-140699, -46983, 141601), v(50488, -12816, 39769))},
		{ray.Ray{From: v(-3832, -46047, -73737), Dir: v(57439, 6311, -74790), Part: 65536}, face(v(-59089, -176982, -142281), v(154378, -155106, -149444), v(-214782, 176468, -6757)), face(v(-32456, -118769, -81814), v(213722, -112500, -187909), v(-233312, 132297, -16108)), hit(34687, v(26569, -42707, -113322), v(25760, 4889, 60062))},
		{ray.Ray{From: v(-314844, -278461, 21130), Dir: v(67378, 93699, 39339), Part: 65536}, face(v(-6483, 29320, 234830), v(247792, -121169, -4584), v(-236246, 58864, 161301)), face(v(-46251, -30018, 272779), v(245535, -123879, 21526), v(-224850, 105530, 126536)), hit(214494, v(-94322, 28208, 149883), v(-30609, -56079, -14597))},
		{ray.Ray{From: v(-312382, -165846, -273317), Dir: v(68298, 32611, 50035), Part: 32768}, face(v(-259716, 203755, -136085), v(-34161, -250521, 217237), v(-31887, -91420, -138305)), face(v(-302702, 257451, -137069), v(-45954, -286925, 232342), v(-87170, -27133, -193240)), hit(220486, v(-82604, -56132, -104982), v(-51017, -37258, -17436))},
		{ray.Ray{From: v(-13229, 224511, 158728), Dir: v(4481, -115851, -75840), Part: 21845}, face(v(-22171, 9212, -59341), v(23766, 13239, -167633), v(-11426, -28036, 78490)), face(v(39358, -38815, -104582), v(48784, -24244, -227740), v(-13364, 7061, 128454)), hit(133300, v(-4115, -11130, 4469), v(-2850, 65382, 3504))},
	}
	for _, x := range rows {
		isHit(t, x.r, pose.Moving{A: x.a, B: x.b}, 0, most, x.want)
	}
}

// P12.2: faces at their edges, reckoned by another program: one share 0 or a unit below, both together One or a unit above, seen from either side; faces whose boxes the points lie outside of, at last those at the end of it, and a unit beyond.
func TestFacesAtTheirEdges(t *testing.T) {
	rows := []struct {
		from, dir api.Vec
		p         pose.Placed
		want      ray.Hit
	}{
		{v(87176, 0, 111203), v(32768, 0, 32768), face(v(65536, 0, 0), v(65536, -65536, 0), v(0, 0, 65536)), hit(-132843, v(20754, 0, 44781), v(-46342, 0, -46342))},
		{v(-87195, -65535, 60691), v(-32768, 0, 0), face(v(0, -65536, 65536), v(0, 65536, 65536), v(-65536, -65536, -65536)), hit(-169545, v(-2423, -65535, 60691), v(58618, 0, -29308))},
		{v(88616, 31033, 96571), v(65536, 65536, 65536), face(v(65536, -65536, 0), v(65536, 0, -65536), v(-65536, -65536, 0)), ray.Hit{}},
		{v(-10183, -49496, 115034), v(65536, 65536, -65536), face(v(-65536, 0, 65536), v(-65536, -65536, 0), v(65536, 0, 65536)), ray.Hit{}},
		{v(110481, -34063, -62689), v(65536, -32768, -65536), face(v(0, 65536, 65536), v(-65536, -65536, 65536), v(0, 65536, -65536)), hit(-128225, v(-17744, 30049, 65536), v(-58617, 29309, 0))},
		{v(47332, -29214, 36321), v(65536, 0, 0), face(v(0, -65536, 0), v(65536, 0, 65536), v(0, 65536, 0)), hit(-11011, v(36321, -29214, 36321), v(-46342, 0, 46341))},
		{v(-27172, 41427, -15689), v(65536, 32768, 32768), face(v(0, 65536, 0), v(65536, -65536, 0), v(65536, 65536, -65536)), ray.Hit{}},
		{v(39319, 34370, 9905), v(-65536, 32768, -32768), face(v(65536, 65536, -65536), v(-65536, 65536, 0), v(65536, -65536, -65536)), ray.Hit{}},
		{v(-3030, 22446, 84953), v(0, -32768, -32768), face(v(0, -65536, -65536), v(-65536, -65536, -65536), v(0, 0, 65536)), hit(50950, v(-3030, -3029, 59478), v(0, 58617, -29309))},
		{v(-11863, -79106, 2), v(-32768, -65536, 0), face(v(0, -65536, -65536), v(-65536, 65536, 0), v(65536, 0, 0)), ray.Hit{}},
		{v(-139754, 205560, -228879), v(-1353, 929, 473), face(v(-19113765, 7326762, -7130124), v(5775, -8527, 13975), v(205709, 225842, 44130)), ray.Hit{}},
		{v(-73602, 26218, -120116), v(-1520, -1673, 627), face(v(-10173872, 16089797, 7340341), v(7500977, 3122989, -17281804), v(147, 13909, -5181)), ray.Hit{}},
		{v(-9591448, 13072275, 24540375), v(123, -173, 105), face(v(1874362, -15658359, -9542979), v(-11313691, -11152606, 19563769), v(177397, -144294, 41075)), ray.Hit{}},
		{v(-228844, -187566, -227423), v(233, 338, -42), face(v(-5022295, 13250377, -1003105), v(-49109, 67156, 171303), v(3740761, 3575222, -15743317)), ray.Hit{}},
		{v(207672, -149186, -214251), v(102, -129, -414), face(v(210178, -155988, -230827), v(206613, -156902, -235688), v(210178, -151586, -231951)), hit(1327104, v(209737, -151799, -222635), v(-87552, 15616, 61440))},
		{v(-115968, -111189, 60815), v(369, -1200, 1552), face(v(-113024, -117355, 72787), v(-111707, -119017, 72628), v(-111616, -117898, 74235)), hit(152917, v(-115108, -113989, 64436), v(0, 0, 0))},
		{v(258826, 21216, -207796), v(-532, -298, 130), face(v(256852, 10818, -209970), v(257526, 8793, -211551), v(260128, 11682, -210612)), ray.Hit{}},
		{v(-111987, -90574, 134288), v(170, -54, 119), face(v(-97701, -82451, 128985), v(-101504, -82344, 128701), v(-98084, -83785, 133198)), ray.Hit{}},
	}
	for _, x := range rows {
		isHit(t, from(x.from, x.dir), still(x.p), -most, most, x.want)
	}
}

// P12.2: a shape is met where it is at the ray's part of the time, as of the kind that it was first.
func TestMovingOnes(t *testing.T) {
	m := pose.Moving{A: ball(ones(0, 0, 0), one), B: ball(ones(0, 0, 8), 3*one)}
	rows := []struct {
		part api.Fix
		at   api.Fix
	}{
		{0, -one}, {one / 2, 2 * one}, {one, 5 * one}, {-1, -one}, {math.MinInt64, -one}, {one + 1, 5 * one}, {math.MaxInt64, 5 * one},
	}
	for _, r := range rows {
		isHit(t, ray.Ray{From: ones(0, 0, -4), Dir: ones(0, 0, 1), Part: r.part}, m, 0, most, hit(4*one+r.at, v(0, 0, r.at), ones(0, 0, -1)))
	}
	flat := face(ones(-1, -1, 2), ones(1, -1, 2), ones(0, 1, 2))
	turned := pose.Moving{A: flat, B: flat}
	turned.B.Kind, turned.B.Radius = scene.Ball, one
	isHit(t, from(ones(0, 0, -4), ones(0, 0, 1)), turned, 0, most, hit(6*one, ones(0, 0, 2), ones(0, 0, -1)))
	round := pose.Moving{A: ball(ones(0, 0, 0), one), B: ball(ones(0, 0, 0), one)}
	round.B.Kind, round.A.Paint = scene.Face, 7
	isHit(t, ray.Ray{From: ones(0, 0, -4), Dir: ones(0, 0, 1), Part: one}, round, 0, most, hit(3*one, ones(0, 0, -1), ones(0, 0, -1)))
}

// size is how great the numbers of a ray or a shape are, from less than One on nearly up to the span's ends.
func (d *draw) size() api.Fix { return 256 << d.below(22) }

// ray is a ray that looks about from near zero.
func (d *draw) ray() ray.Ray {
	return ray.Ray{From: d.point(6 * one), Dir: d.point(2 * one), Part: d.between(-1, one+1)}
}

// shape is a shape that moves a little, ball or face.
func (d *draw) shape(far, wide api.Fix) pose.Moving {
	p := pose.Placed{Kind: d.below(2), P: [3]api.Vec{d.point(far)}, Radius: d.between(0, wide)}
	p.P[1], p.P[2] = d.about(p.P[0], 2*wide), d.about(p.P[0], 2*wide)
	q := p
	for i := range q.P {
		q.P[i] = d.about(q.P[i], wide)
	}
	q.Radius = d.between(0, wide)
	return pose.Moving{A: p, B: q}
}

// shapes are some shapes that move.
func (d *draw) shapes(n int) []pose.Moving {
	var l []pose.Moving
	for range n {
		l = append(l, d.shape(5*one, 2*one))
	}
	return l
}

// looks are rays, and shapes that they may meet: of sizes like the scenes' ones, and of all others, where much is held or rounded away.
func looks(call func(r ray.Ray, m pose.Moving)) {
	d := draw(31)
	for range 6000 {
		call(d.ray(), d.shape(4*one, 2*one))
	}
	for range 6000 {
		far := d.size()
		call(ray.Ray{From: d.point(far), Dir: d.point(d.size()), Part: d.between(0, one)}, d.shape(far, d.size()))
	}
	for range 9000 {
		// From far away towards a shape, where what is reckoned is held, and from near.
		far := one << d.below(12)
		m, from := d.shape(far, far>>d.below(6)+256), d.point(far)
		p := m.At(d.between(0, one))
		to := p.P[0]
		if p.Kind == scene.Face {
			to = vec.Mix(p.P[0], vec.Mix(p.P[1], p.P[2], d.between(0, one)), d.between(0, one))
		}
		call(ray.Ray{From: from, Dir: vec.Scale(vec.Sub(to, from), d.between(1, one)), Part: d.between(0, one)}, m)
	}
}

// ballRoots are the places at which a ball is met, if one is, number by number.
func ballRoots(r ray.Ray, p pose.Placed) []api.Fix {
	c := p.P[0]
	f := v(fix.Sub(r.From.X, c.X), fix.Sub(r.From.Y, c.Y), fix.Sub(r.From.Z, c.Z))
	dot := func(a, b api.Vec) api.Fix {
		return fix.Add(fix.Add(fix.Mul(a.X, b.X), fix.Mul(a.Y, b.Y)), fix.Mul(a.Z, b.Z))
	}
	a, b := dot(r.Dir, r.Dir), dot(f, r.Dir)
	u := fix.Sub(fix.Mul(b, b), fix.Mul(a, fix.Sub(dot(f, f), fix.Mul(p.Radius, p.Radius))))
	if u < 0 || a == 0 {
		return nil
	}
	w := fix.Root(u)
	return []api.Fix{fix.Div(fix.Sub(fix.Sub(0, b), w), a), fix.Div(fix.Sub(w, b), a)}
}

// faceRoots are the place at which a face is met, if it is.
func faceRoots(r ray.Ray, p pose.Placed) []api.Fix {
	e, g, f := vec.Sub(p.P[1], p.P[0]), vec.Sub(p.P[2], p.P[0]), vec.Sub(r.From, p.P[0])
	x, z := vec.Cross(r.Dir, g), vec.Cross(f, e)
	y := vec.Dot(e, x)
	if y == 0 {
		return nil
	}
	u, v := fix.Div(vec.Dot(f, x), y), fix.Div(vec.Dot(r.Dir, z), y)
	if min(u, v) < 0 || u+v > one {
		return nil
	}
	return []api.Fix{fix.Div(vec.Dot(g, z), y)}
}

// testOf is where a ray meets a shape, by the chapter's words.
func testOf(r ray.Ray, m pose.Moving, near, far api.Fix) (ray.Hit, bool) {
	p := m.At(r.Part)
	roots := faceRoots(r, p)
	n := vec.Unit(vec.Cross(vec.Sub(p.P[1], p.P[0]), vec.Sub(p.P[2], p.P[0])))
	if p.Kind == scene.Ball {
		roots = ballRoots(r, p)
	}
	for _, t := range roots {
		at := vec.Add(r.From, vec.Scale(r.Dir, t))
		if t <= near || t > far || !box.Around(p).Has(at) {
			continue
		}
		if p.Kind == scene.Ball {
			n = vec.Unit(vec.Sub(at, p.P[0]))
		}
		if vec.Dot(n, r.Dir) > 0 {
			n = vec.Neg(n)
		}
		return ray.Hit{T: t, Point: at, Normal: n}, true
	}
	return ray.Hit{}, false
}

// P12.2
func TestByDefinition(t *testing.T) {
	met, missed := [2]int{}, [2]int{}
	looks(func(r ray.Ray, m pose.Moving) {
		for _, ends := range [][2]api.Fix{{0, most}, {-most, most}, {ray.Near, 3 * one}, {one, one + one/2}} {
			want, ok := testOf(r, m, ends[0], ends[1])
			got, met2 := r.Test(m, ends[0], ends[1])
			if got != want || ok != met2 {
				t.Fatalf("%v of %v, between %v: %v, %v, not %v, %v", r, m, ends, got, met2, want, ok)
			}
			if ok {
				met[m.A.Kind]++
			} else {
				missed[m.A.Kind]++
			}
		}
	})
	for _, n := range append(met[:], missed[:]...) {
		if n < 2000 {
			t.Errorf("met %v, missed %v", met, missed)
		}
	}
}

// P12.3: what is met lies in the box about the shape as it is then, and so in the one of layer 11's pair; a shape whose box doesn't meet the ray's span isn't met.
func TestNeverOutsideOfItsBox(t *testing.T) {
	apart := 0
	looks(func(r ray.Ray, m pose.Moving) {
		about, pair := box.Around(m.At(r.Part)), box.Moving(m).At(r.Part)
		for _, ends := range [][2]api.Fix{{0, most}, {-most, most}, {ray.Near, 3 * one}, {one, one + one/2}, {-2 * one, 7}} {
			h, ok := r.Test(m, ends[0], ends[1])
			span := r.Span(ends[0], ends[1])
			if ok && (!about.Has(h.Point) || !pair.Has(h.Point) || !span.Has(h.Point) || h.Point != r.At(h.T)) {
				t.Fatalf("%v of %v: %v lies outside", r, m, h)
			}
			if ok && (!about.Meets(span) || !pair.Meets(span)) {
				t.Fatalf("%v of %v, between %v: %v is met where it isn't", r, m, ends, h)
			}
			if !about.Meets(span) {
				apart++
			}
		}
	})
	if apart < 1000 {
		t.Errorf("only %d shapes are apart", apart)
	}
}

// P12.3: to look farther finds the same hit, if it isn't farther.
func TestFartherIsTheSame(t *testing.T) {
	looks(func(r ray.Ray, m pose.Moving) {
		h, ok := r.Test(m, 0, most)
		for _, far := range []api.Fix{0, one / 3, one, 3 * one, h.T - 1, h.T, h.T + 1, most} {
			got, there := r.Test(m, 0, far)
			if there != (ok && h.T <= far) || there && got != h {
				t.Fatalf("%v of %v: up to %d %v, %v, up to Most %v, %v", r, m, far, got, there, h, ok)
			}
		}
	})
	d := draw(77)
	for range 400 {
		r, l := d.ray(), d.shapes(9)
		h, ok := r.Scan(l, 0, most)
		for _, far := range []api.Fix{0, one / 3, one, h.T - 1, h.T, h.T + 1, most} {
			got, there := r.Scan(l, 0, far)
			if there != (ok && h.T <= far) || there && got != h {
				t.Fatalf("%v of %v: up to %d %v, %v, up to Most %v, %v", r, l, far, got, there, h, ok)
			}
		}
	}
}
