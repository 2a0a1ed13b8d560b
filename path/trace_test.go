package path_test

import (
	"math"
	"slices"
	"strings"
	"testing"

	"zoetrope/api"
	"zoetrope/coat"
	"zoetrope/dice"
	"zoetrope/fix"
	"zoetrope/hue"
	"zoetrope/path"
	"zoetrope/pose"
	"zoetrope/ray"
	"zoetrope/scene"
	"zoetrope/track"
	"zoetrope/vec"
	"zoetrope/view"
)

// room is a scene of all kinds of paints, shapes and tracks, with three lamps, that has been rendered by another program, too.
func room() scene.Scene {
	turn := track.Track{Way: track.Line, Keys: []track.Key{{}, {Time: 2 * one, Value: v(one/8, one/5, -one/7-1)}}}
	return scene.Scene{
		Header: scene.Header{Width: 6, Height: 5, Samples: 3, Depth: 5, Frames: 3, Shutter: one * 3 / 4, Seed: 0xfedcba9876543210, Sky: h(one/3, one/2, one)},
		Lens:   scene.Lens{Eye: 0, Look: 1, Wide: one * 3 / 4},
		Paints: []scene.Paint{
			{Kind: scene.Matte, Color: h(one*3/4, one/2, one/3)}, {Kind: scene.Mirror, Color: h(one*7/8, one, one*3/4)}, {Kind: scene.Gloss, Color: h(one, one*5/6, one/2), Rough: one / 3},
			{Kind: scene.Glow, Color: h(9*one, 7*one, 5*one)}, {Kind: scene.Glow, Color: h(2*one, 3*one, 4*one)},
		},
		Tracks: []track.Track{
			{Way: track.Line, Keys: []track.Key{{Value: ones(0, 1, -6)}, {Time: 4 * one, Value: ones(2, 2, -5)}}}, track.Still(ones(0, 0, 0)),
			{Way: track.Ease, Keys: []track.Key{{Value: ones(-2, 0, 0)}, {Time: 3 * one, Value: ones(1, 1, 1)}}}, turn,
		},
		Joints: []scene.Joint{{Parent: -1, Move: 2, Turn: 3, Size: one}, {Parent: 0, Move: -1, Turn: 3, Size: one * 5 / 4}},
		Shapes: []scene.Shape{
			face(-1, 0, ones(-8, -2, -8), ones(8, -2, -8), ones(0, -1, 9)), ball(0, 1, ones(1, 0, 0), one*3/2), face(1, 2, ones(1, -1, 1), ones(3, 0, -1), ones(0, 3, 1)), ball(-1, 3, ones(-2, 4, -2), one/2),
			ball(1, 0, ones(2, 1, 0), one*2/3), face(-1, 4, ones(2, 2, 0), ones(4, 1, 2), ones(3, 4, 2)), ball(0, 4, ones(-1, 1, 0), one/3), face(-1, 1, ones(-9, -2, -3), ones(-1, 6, 5), ones(-4, -2, 4)),
		},
	}
}

// sampled is what a sample of a frame's pixel sees.
type sampled struct {
	frame, x, y, sample int
	want                path.Seen
}

// roomSamples are samples of the room, reckoned by another program: each by other kinds of shapes on its way than the others; at last those of numbers that no pixel counts.
func roomSamples() []sampled {
	return []sampled{
		{0, 0, 0, 0, path.Seen{Light: h(21845, 32768, 65536), Depth: most, Normal: v(0, 0, 0), Point: v(0, 0, 0), Base: h(0, 0, 0), Shape: -1, Part: 3851}},
		{0, 2, 0, 0, path.Seen{Light: h(19114, 32768, 49152), Depth: 724273, Normal: v(51943, -14841, -37103), Point: v(-122624, 335040, 271027), Base: h(57344, 65536, 49152), Shape: 7, Part: 16930}},
		{0, 3, 1, 0, path.Seen{Light: h(16383, 16384, 21845), Depth: 317554, Normal: v(-30985, 3445, -57649), Point: v(3627, 76744, -73341), Base: h(49152, 32768, 21845), Shape: 4, Part: 13032}},
		{0, 2, 2, 0, path.Seen{Light: h(21845, 24966, 24964), Depth: 311905, Normal: v(12932, -15984, -62229), Point: v(-43006, -24344, -96913), Base: h(57344, 65536, 49152), Shape: 1, Part: 10153}},
		{0, 3, 2, 0, path.Seen{Light: h(26998, 26999, 31280), Depth: 575760, Normal: v(0, 98475, -5792), Point: v(110816, -90737, 161417), Base: h(49152, 32768, 21845), Shape: 0, Part: 58211}},
		{1, 1, 1, 0, path.Seen{Light: h(16383, 16384, 21845), Depth: 246562, Normal: v(-3776, 9172, -64782), Point: v(-81284, 112394, -160658), Base: h(49152, 32768, 21845), Shape: 4, Part: 46114}},
		{1, 2, 3, 0, path.Seen{Light: h(0, 0, 0), Depth: 384132, Normal: v(0, 98475, -5792), Point: v(-31520, -102963, -46435), Base: h(49152, 32768, 21845), Shape: 0, Part: 39936}},
		{2, 3, 0, 0, path.Seen{Light: h(21845, 27306, 32768), Depth: 294962, Normal: v(-20931, -6312, -61783), Point: v(53983, 205386, -84632), Base: h(65536, 54613, 32768), Shape: 2, Part: 5019}},
		{2, 1, 1, 0, path.Seen{Light: h(13347, 17433, 8715), Depth: 593935, Normal: v(51943, -14841, -37103), Point: v(-298956, 132149, 105318), Base: h(57344, 65536, 49152), Shape: 7, Part: 20284}},
		{2, 2, 1, 0, path.Seen{Light: h(12286, 4247, 1347), Depth: 314349, Normal: v(45528, -18252, -43465), Point: v(-53649, 126836, -69499), Base: h(49152, 32768, 21845), Shape: 4, Part: 38210}},
		{2, 3, 1, 0, path.Seen{Light: h(21845, 31207, 28086), Depth: 288445, Normal: v(5218, 51800, -39807), Point: v(47527, 121681, -70496), Base: h(57344, 65536, 49152), Shape: 1, Part: 17365}},
		{2, 5, 1, 0, path.Seen{Light: h(131072, 196608, 262144), Depth: 520177, Normal: v(48773, 16258, -40643), Point: v(256193, 74680, 127589), Base: h(131072, 196608, 262144), Shape: 5, Part: 14342}},
		{2, 5, 4, 0, path.Seen{Light: h(45557, 37261, 30818), Depth: 352584, Normal: v(0, 98475, -5792), Point: v(229806, -107278, -119797), Base: h(49152, 32768, 21845), Shape: 0, Part: 21601}},
		{0, 2, 2, 1, path.Seen{Light: h(36181, 21441, 7656), Depth: 318700, Normal: v(36550, -15659, -52096), Point: v(-4633, -24198, -85056), Base: h(57344, 65536, 49152), Shape: 1, Part: 19705}},
		{0, 3, 3, 1, path.Seen{Light: h(8455, 8455, 7515), Depth: 346426, Normal: v(0, 98475, -5792), Point: v(65026, -105705, -93043), Base: h(49152, 32768, 21845), Shape: 0, Part: 41225}},
		{1, 1, 1, 1, path.Seen{Light: h(21845, 14563, 12944), Depth: 264571, Normal: v(28469, 7063, -58607), Point: v(-78203, 128069, -139849), Base: h(49152, 32768, 21845), Shape: 4, Part: 63506}},
		{1, 2, 1, 1, path.Seen{Light: h(25242, 24039, 13774), Depth: 297728, Normal: v(31326, -20383, -53835), Point: v(1777, 96035, -77187), Base: h(65536, 54613, 32768), Shape: 2, Part: 25882}},
		{2, 1, 0, 1, path.Seen{Light: h(14634, 32768, 27648), Depth: 598897, Normal: v(51943, -14841, -37103), Point: v(-270437, 181309, 125580), Base: h(57344, 65536, 49152), Shape: 7, Part: 53960}},
		{0, 1, 1, 2, path.Seen{Light: h(39689, 48926, 34992), Depth: 632537, Normal: v(51943, -14841, -37103), Point: v(-270067, 51129, 178171), Base: h(57344, 65536, 49152), Shape: 7, Part: 65038}},
		{1, 3, 1, 2, path.Seen{Light: h(21845, 18204, 14562), Depth: 302094, Normal: v(30985, -20259, -54079), Point: v(25554, 119591, -72072), Base: h(65536, 54613, 32768), Shape: 2, Part: 26295}},
		{1, 0, 2, 2, path.Seen{Light: h(53386, 31636, 11298), Depth: 594694, Normal: v(51943, -14841, -37103), Point: v(-362042, 17308, 62933), Base: h(57344, 65536, 49152), Shape: 7, Part: 1489}},
		{1, 2, 4, 2, path.Seen{Light: h(0, 0, 0), Depth: 295228, Normal: v(0, 98475, -5792), Point: v(-8334, -109493, -157437), Base: h(49152, 32768, 21845), Shape: 0, Part: 26853}},
		{2, 2, 1, 2, path.Seen{Light: h(21845, 14563, 12944), Depth: 333959, Normal: v(41245, -48138, -16638), Point: v(-45360, 105870, -43179), Base: h(49152, 32768, 21845), Shape: 4, Part: 54708}},
		{2, 1, 2, 2, path.Seen{Light: h(1674, 1457, 485), Depth: 641633, Normal: v(51943, -14841, -37103), Point: v(-301674, 2310, 153450), Base: h(57344, 65536, 49152), Shape: 7, Part: 28523}},
		{1, 0, 4, 3, path.Seen{Light: h(21845, 10113, 3235), Depth: 316639, Normal: v(0, 98475, -5792), Point: v(-128967, -112023, -200448), Base: h(49152, 32768, 21845), Shape: 0, Part: 39504}},
		{2, 2, 1, 3, path.Seen{Light: h(0, 0, 0), Depth: 315828, Normal: v(52246, -5431, -39192), Point: v(-45323, 138433, -65029), Base: h(49152, 32768, 21845), Shape: 4, Part: 42000}},
		{0, 3, 2, 4, path.Seen{Light: h(21845, 31207, 28086), Depth: 327018, Normal: v(-49178, -5193, -43005), Point: v(54974, 35681, -70011), Base: h(65536, 54613, 32768), Shape: 2, Part: 9610}},
		{0, 4, 3, 4, path.Seen{Light: h(44516, 18165, 6856), Depth: 367129, Normal: v(0, 98475, -5792), Point: v(118897, -105118, -83067), Base: h(49152, 32768, 21845), Shape: 0, Part: 34769}},
		{2, 2, 3, 6, path.Seen{Light: h(70202, 45878, 24421), Depth: 335258, Normal: v(0, 98475, -5792), Point: v(-27932, -107278, -119789), Base: h(49152, 32768, 21845), Shape: 0, Part: 51405}},
		{1, 1, 4, 7, path.Seen{Light: h(74353, 45430, 27526), Depth: 290373, Normal: v(0, 98475, -5792), Point: v(-67949, -111508, -191702), Base: h(49152, 32768, 21845), Shape: 0, Part: 29311}},
		{2, 2, 2, 7, path.Seen{Light: h(16725, 32768, 36864), Depth: 290048, Normal: v(-41969, 775, -50330), Point: v(5493, 54717, -76699), Base: h(57344, 65536, 49152), Shape: 1, Part: 57376}},
		{0, 1, 1, 8, path.Seen{Light: h(114688, 196608, 196608), Depth: 600082, Normal: v(51943, -14841, -37103), Point: v(-261531, 196179, 132101), Base: h(57344, 65536, 49152), Shape: 7, Part: 30420}},
		{0, 1, 2, 8, path.Seen{Light: h(60759, 54887, 28455), Depth: 354260, Normal: v(-47095, 10800, -44278), Point: v(-133930, 15939, -69007), Base: h(57344, 65536, 49152), Shape: 1, Part: 7350}},
		{0, 3, 2, 8, path.Seen{Light: h(0, 0, 0), Depth: 542289, Normal: v(0, 98475, -5792), Point: v(141958, -93646, 111959), Base: h(49152, 32768, 21845), Shape: 0, Part: 28681}},
		{0, 1, 3, 8, path.Seen{Light: h(53014, 20943, 4985), Depth: 381074, Normal: v(0, 98475, -5792), Point: v(-114462, -104722, -76333), Base: h(49152, 32768, 21845), Shape: 0, Part: 61890}},
		{2, 1, 1, 8, path.Seen{Light: h(78003, 40446, 19259), Depth: 330755, Normal: v(-27112, -8863, -59005), Point: v(-96322, 140628, -76488), Base: h(49152, 32768, 21845), Shape: 4, Part: 63099}},
		{0, 3, 2, 9, path.Seen{Light: h(35556, 19753, 9177), Depth: 271648, Normal: v(22364, -26689, -55522), Point: v(41966, 36710, -118423), Base: h(49152, 32768, 21845), Shape: 4, Part: 37179}},
		{0, 1, 3, 9, path.Seen{Light: h(80813, 75386, 49870), Depth: 472202, Normal: v(0, 98475, -5792), Point: v(-164373, -99381, 14459), Base: h(49152, 32768, 21845), Shape: 0, Part: 57741}},
		{2, 4, 3, 9, path.Seen{Light: h(22099, 22099, 19643), Depth: 489678, Normal: v(0, 98475, -5792), Point: v(140009, -94743, 93301), Base: h(49152, 32768, 21845), Shape: 0, Part: 63584}},
		{0, 0, 1, 10, path.Seen{Light: h(39171, 55238, 29653), Depth: 593017, Normal: v(51943, -14841, -37103), Point: v(-310264, 81859, 109602), Base: h(57344, 65536, 49152), Shape: 7, Part: 48209}},
		{2, 2, 2, 10, path.Seen{Light: h(69295, 48923, 22523), Depth: 292170, Normal: v(-14414, -34202, -54015), Point: v(12651, -9148, -93615), Base: h(57344, 65536, 49152), Shape: 1, Part: 9818}},
		{0, 1, 3, 13, path.Seen{Light: h(60324, 31279, 14894), Depth: 353520, Normal: v(0, 98475, -5792), Point: v(-104458, -106301, -103178), Base: h(49152, 32768, 21845), Shape: 0, Part: 11418}},
		{1, 0, 1, 15, path.Seen{Light: h(25604, 27868, 8359), Depth: 580023, Normal: v(51943, -14841, -37103), Point: v(-343591, 96088, 57254), Base: h(57344, 65536, 49152), Shape: 7, Part: 49417}},
		{2, 1, 1, 15, path.Seen{Light: h(21168, 24192, 16127), Depth: 624972, Normal: v(51943, -14841, -37103), Point: v(-286302, 66607, 149251), Base: h(57344, 65536, 49152), Shape: 7, Part: 61557}},
		{2, 0, 3, 15, path.Seen{Light: h(50523, 8085, 615), Depth: 414071, Normal: v(0, 98475, -5792), Point: v(-196393, -107200, -118464), Base: h(49152, 32768, 21845), Shape: 0, Part: 11171}},
		{0, 3, 2, -1, path.Seen{Light: h(24069, 24070, 28676), Depth: 537113, Normal: v(0, 98475, -5792), Point: v(144760, -93703, 110995), Base: h(49152, 32768, 21845), Shape: 0, Part: 53132}},
		{2, 1, 1, 1099511627776, path.Seen{Light: h(86994, 52997, 39279), Depth: 329768, Normal: v(-15258, -15061, -61933), Point: v(-120430, 124128, -90272), Base: h(49152, 32768, 21845), Shape: 4, Part: 15814}},
		{1, 1, 4, 16, path.Seen{Light: h(16383, 16384, 21845), Depth: 302564, Normal: v(0, 98475, -5792), Point: v(-96108, -111220, -186804), Base: h(49152, 32768, 21845), Shape: 0, Part: 15086}},
	}
}

// P17.1: samples reckoned by another program.
func TestTrace(t *testing.T) {
	var sets []*path.Set
	for f := range 3 {
		sets = append(sets, ready(t, room(), f))
	}
	for _, x := range roomSamples() {
		if got := sets[x.frame].Trace(x.x, x.y, x.sample); got != x.want {
			t.Errorf("the frame %d, %d, %d, the sample %d: %v, not %v", x.frame, x.x, x.y, x.sample, got, x.want)
		}
	}
}

// P17.1: pixels reckoned by another program.
func TestPixel(t *testing.T) {
	rows := []struct {
		frame, x, y int
		want        path.Seen
	}{
		{0, 0, 4, path.Seen{Light: h(25365, 25366, 29828), Depth: 299433, Normal: v(0, 98475, -5792), Point: v(-133038, -111917, -198648), Base: h(49152, 32768, 21845), Shape: 0, Part: 26456}},
		{0, 3, 2, path.Seen{Light: h(27521, 28562, 31166), Depth: 575760, Normal: v(0, 98475, -5792), Point: v(110816, -90737, 161417), Base: h(49152, 32768, 21845), Shape: 0, Part: 58211}},
		{1, 3, 2, path.Seen{Light: h(20024, 24706, 37448), Depth: most, Normal: v(0, 0, 0), Point: v(0, 0, 0), Base: h(0, 0, 0), Shape: -1, Part: 469}},
		{1, 5, 4, path.Seen{Light: h(38218, 29749, 29960), Depth: 353362, Normal: v(0, 98475, -5792), Point: v(193325, -107420, -122194), Base: h(49152, 32768, 21845), Shape: 0, Part: 11254}},
		{1, 2, 1, path.Seen{Light: h(19336, 18935, 19154), Depth: 193496, Normal: v(24077, 16429, -58699), Point: v(-10226, 83402, -187083), Base: h(49152, 32768, 21845), Shape: 4, Part: 11153}},
		{2, 3, 3, path.Seen{Light: h(12742, 11009, 10979), Depth: 383730, Normal: v(0, 98475, -5792), Point: v(77129, -101943, -29097), Base: h(49152, 32768, 21845), Shape: 0, Part: 61910}},
		{2, 0, 0, path.Seen{Light: h(21845, 32768, 65536), Depth: most, Normal: v(0, 0, 0), Point: v(0, 0, 0), Base: h(0, 0, 0), Shape: -1, Part: 40144}},
	}
	for _, x := range rows {
		if got := ready(t, room(), x.frame).Pixel(x.x, x.y); got != x.want {
			t.Errorf("the frame %d, %d, %d: %v, not %v", x.frame, x.x, x.y, got, x.want)
		}
	}
}

// frame is a scene's frame for the definition: its shapes one by one, its lamps as they are found.
type frame struct {
	scene.Scene
	number int
	shapes []pose.Moving
	lamps  []int
}

// frameOf is a frame for the definition.
func frameOf(s scene.Scene, number int) frame {
	f := frame{Scene: s, number: number, shapes: pose.Frame(s, number)}
	for i, x := range s.Shapes {
		if s.Paints[x.Paint].Kind == scene.Glow {
			f.lamps = append(f.lamps, i)
		}
	}
	return f
}

// fromLampOf is what comes to a hit from a lamp, word by word, and a letter for how it came to that.
func (f frame) fromLampOf(k dice.Key, d int, part api.Fix, hit ray.Hit) (hue.Hue, string) {
	if len(f.lamps) == 0 {
		return hue.Hue{}, "-"
	}
	lamp := f.lamps[k.Below(d, len(f.lamps))]
	p := coat.Sample(f.shapes[lamp].At(part), k.Unit(d+1), k.Unit(d+2))
	dir, far, much := coat.Reach(hit.Point, hit.Normal, p)
	if much == 0 {
		return hue.Hue{}, "0"
	}
	first, met := ray.Ray{From: hit.Point, Dir: dir, Part: part}.Scan(f.shapes, ray.Near, far)
	if met && first.Shape != lamp {
		return hue.Hue{}, "h"
	}
	color, light := f.Paints[f.Shapes[hit.Shape].Paint].Color, f.Paints[f.Shapes[lamp].Paint].Color
	each := func(c, l api.Fix) api.Fix { return fix.Mul(fix.Mul(c, l), fix.Mul(much, fix.Of(len(f.lamps)))) }
	return h(each(color.R, light.R), each(color.G, light.G), each(color.B, light.B)), "l"
}

// sampleOf is a sample of a pixel, word by word, and a letter for each thing on its way.
func (f frame) sampleOf(x, y, sample int) (path.Seen, string) {
	k := dice.Key{Seed: f.Seed, Frame: f.number, Pixel: y*f.Width + x, Sample: sample}
	part := k.Unit(2)
	seen := path.Seen{Depth: most, Shape: -1, Part: part}
	r := view.Mix(view.At(f.Scene, f.Open(f.number)), view.At(f.Scene, f.Shut(f.number)), part).Ray(x, y, k.Unit(0), k.Unit(1), part)
	weight, sharp, story := h(one, one, one), true, ""
	add := func(l hue.Hue) { seen.Light = hue.Add(seen.Light, hue.Mul(weight, l)) }
	for b := 0; b < f.Depth; b++ {
		d := 3 + 8*b
		hit, met := r.Scan(f.shapes, ray.Near, most)
		if !met {
			add(f.Sky)
			return seen, story + "S"
		}
		p := f.Paints[f.Shapes[hit.Shape].Paint]
		if b == 0 {
			seen.Depth, seen.Normal, seen.Point, seen.Base, seen.Shape = hit.T, hit.Normal, hit.Point, p.Color, hit.Shape
		}
		story += string("MRGL"[p.Kind])
		if p.Kind == scene.Glow && sharp {
			add(p.Color)
			return seen, story + "+"
		}
		if p.Kind == scene.Matte {
			l, how := f.fromLampOf(k, d, part, hit)
			add(l)
			story += how
		}
		turn := coat.Bounce(p, r.Dir, hit.Normal, k.Unit(d+3), k.Unit(d+4))
		if !turn.Goes {
			return seen, story + "x"
		}
		weight, sharp = hue.Mul(weight, turn.Let), turn.Sharp
		if b > 0 {
			lives := false
			if weight, lives = coat.Lives(weight, k.Unit(d+5)); !lives {
				return seen, story + "d"
			}
		}
		r = ray.Ray{From: hit.Point, Dir: turn.Dir, Part: part}
	}
	return seen, story
}

// pixelOf is a pixel, word by word.
func (f frame) pixelOf(x, y int) path.Seen {
	seen, _ := f.sampleOf(x, y, 0)
	var sum hue.Hue
	for n := range f.Samples {
		one, _ := f.sampleOf(x, y, n)
		sum = hue.Add(sum, one.Light)
	}
	seen.Light = hue.Mean(sum, f.Samples)
	return seen
}

// W1, P17.1, P17.3: samples word by word, with the hits that are found one by one, of scenes of no shapes up to those of all that there may be.
func TestTraceWordByWord(t *testing.T) {
	d := draw(17)
	var stories []string
	for i := range 240 {
		s := d.scene([]int{0, 1, 3, 6, 9, 14, 20, 30, 50, 128}[i%10])
		if i%2 == 0 {
			s.Depth = api.MaxDepth
		}
		if i%4 == 2 && len(s.Shapes) > 0 {
			// A mirror all around, so that ways are longer.
			s.Shapes[0] = ball(-1, 4, ones(0, 0, 0), 9*one)
		}
		n := d.below(s.Frames)
		set, f := ready(t, s, n), frameOf(s, n)
		for range 150 {
			x, y, sample := d.below(s.Width), d.below(s.Height), d.below(16)
			want, story := f.sampleOf(x, y, sample)
			if got := set.Trace(x, y, sample); got != want {
				t.Fatalf("%v, %d: %d, %d, the sample %d: %v, not %v (%s)", s, n, x, y, sample, got, want, story)
			}
			stories = append(stories, story)
		}
	}
	// Each thing that the chapter tells of comes up, and not just once.
	for _, part := range []string{"S", "M0", "Mh", "Ml", "M-", "R", "G", "L+", "RL+", "GL+", "lL", "0L", "hL", "d", "RRR", "hS", "MlMl", "lRL+", "hRL+", "lRM"} {
		if n := many(stories, part); n < 5 {
			t.Errorf("%s only %d times", part, n)
		}
	}
}

// many is how many of some texts have a part.
func many(l []string, part string) int {
	n := 0
	for _, x := range l {
		if strings.Contains(x, part) {
			n++
		}
	}
	return n
}

// W1, P17.1, P17.3: pixels word by word; all that one sees hangs on its first sample, but for the light.
func TestPixelWordByWord(t *testing.T) {
	d := draw(18)
	for i := range 16 {
		s := d.scene(2 + d.below(12))
		s.Samples = 1 + i
		n := d.below(s.Frames)
		set, f := ready(t, s, n), frameOf(s, n)
		for y := range s.Height {
			for x := range s.Width {
				if got, want := set.Pixel(x, y), f.pixelOf(x, y); got != want {
					t.Fatalf("%v, %d: %d, %d: %v, not %v", s, n, x, y, got, want)
				}
			}
		}
	}
}

// P17.1: samples of any numbers draw by them; each number by its own.
func TestAnySample(t *testing.T) {
	s := room()
	set, f := ready(t, s, 1), frameOf(s, 1)
	for _, n := range []int{math.MinInt, -1 << 33, -1, 3, 16, 17, 1 << 33, math.MaxInt} {
		want, _ := f.sampleOf(2, 3, n)
		if got := set.Trace(2, 3, n); got != want || got.Part != (dice.Key{Seed: s.Seed, Frame: 1, Pixel: 20, Sample: n}).Unit(2) {
			t.Errorf("the sample %d: %v, not %v", n, got, want)
		}
	}
}

// P17.1: numbers at the ends of what may be: the brightest sky and lamps, the widest lens, the largest shapes, far out.
func TestFarOut(t *testing.T) {
	d := draw(19)
	met := 0
	for range 150 {
		s := d.scene(10)
		s.Sky, s.Wide, s.Shutter = h(16*one, 16*one, 16*one), 8*one, one
		for i := range s.Paints {
			s.Paints[i].Color, s.Paints[i].Rough = h(16*one, 16*one, d.between(0, 16*one)), one
		}
		for i := range s.Tracks {
			for j := range s.Tracks[i].Keys {
				s.Tracks[i].Keys[j].Value = d.point(one << d.below(16))
			}
		}
		for i := range s.Joints {
			s.Joints[i].Size = d.between(1, 64*one)
		}
		for i := range s.Shapes {
			x := &s.Shapes[i]
			if x.A = d.point(256 * one); x.Kind == scene.Ball {
				x.Radius = d.between(one, 64*one)
			}
		}
		set, f := ready(t, s, 0), frameOf(s, 0)
		for range 40 {
			x, y, n := d.below(s.Width), d.below(s.Height), d.below(16)
			want, _ := f.sampleOf(x, y, n)
			if got := set.Trace(x, y, n); got != want {
				t.Fatalf("%v: %d, %d, the sample %d: %v, not %v", s, x, y, n, got, want)
			}
			if want.Shape >= 0 {
				met++
			}
		}
	}
	if met < 500 {
		t.Errorf("only %d met something", met)
	}
}

// P17.3: what is seen hangs on scene, frame, pixel and sample alone: in any order, again and again, of whichever set.
func TestSeenAgain(t *testing.T) {
	set := ready(t, room(), 1)
	before := all(set)
	for range 100 {
		set.Trace(5, 4, 2)
		set.Placed(1, one/2)
		ready(t, room(), 0).Pixel(1, 1)
	}
	if !slices.Equal(all(set), before) || !slices.Equal(all(ready(t, room(), 1)), before) {
		t.Error("another time it is another picture")
	}
	last := set.Trace(5, 4, 2)
	for i := range 90 {
		x, y, n := 5-i%6, 4-i/6%5, 2-i/30
		set.Trace(x, y, n)
	}
	if got := set.Trace(5, 4, 2); got != last {
		t.Errorf("%v, not %v", got, last)
	}
	// Another frame, seed, pixel or sample is another one.
	other := room()
	other.Seed++
	for _, got := range []path.Seen{ready(t, other, 1).Trace(5, 4, 2), ready(t, room(), 2).Trace(5, 4, 2), set.Trace(5, 4, 1), set.Trace(4, 4, 2), set.Trace(5, 3, 2)} {
		if got.Part == last.Part {
			t.Errorf("%v draws what %v draws", got, last)
		}
	}
}

// P17.3: a hit's point lies so far on along the ray through the pixel, on the side from which it comes.
func TestSeenIsMet(t *testing.T) {
	s := room()
	for n := range s.Frames {
		set := ready(t, s, n)
		a, b := view.At(s, s.Open(n)), view.At(s, s.Shut(n))
		for i := range 30 {
			got := set.Trace(i%6, i/6, 0)
			k := dice.Key{Seed: s.Seed, Frame: n, Pixel: i}
			r := view.Mix(a, b, got.Part).Ray(i%6, i/6, k.Unit(0), k.Unit(1), got.Part)
			if got.Shape >= 0 && (got.Point != r.At(got.Depth) || vec.Dot(got.Normal, r.Dir) > 0) {
				t.Errorf("the frame %d, the pixel %d: %v isn't met by %v", n, i, got, r)
			}
		}
	}
}
