package scene

import (
	"cmp"

	"zoetrope/api"
	"zoetrope/hue"
	"zoetrope/track"
	"zoetrope/vec"
)

// The greatest numbers of a light's kinds, of a joint's size and a ball's radius, of a point, of how wide a lens is.
const (
	brightest = 16 * api.One
	largest   = 64 * api.One
	farthest  = 256 * api.One
	widest    = 8 * api.One
)

// none stands for no joint and no track; nowhere is where a rule is broken that isn't.
const (
	none    = -1
	nowhere = -1
)

// rule is what scenes must keep: its error, and where a scene breaks it first, or nowhere.
type rule struct {
	err   api.Errno
	where func() int
}

// Check is the first rule that a scene breaks, and where.
func Check(s Scene) (api.Errno, int) {
	rules := []rule{
		{api.ErrHeader, alone(s.Header.mayBe)},
		{api.ErrPaint, each(len(s.Paints), api.MaxPaints, func(i int) bool { return s.Paints[i].mayBe() })},
		{api.ErrTrack, each(len(s.Tracks), api.MaxTracks, func(i int) bool { return track.Right(s.Tracks[i]) })},
		{api.ErrJoint, each(len(s.Joints), api.MaxJoints, s.jointMayBe)},
		{api.ErrShape, each(len(s.Shapes), api.MaxShapes, s.shapeMayBe)},
		{api.ErrLens, alone(s.lensMayBe)},
		{api.ErrLamp, s.lampTooMany},
	}
	for _, r := range rules {
		if i := r.where(); i != nowhere {
			return r.err, i
		}
	}
	return api.OK, 0
}

// each looks where a list breaks its rule: behind the most that it may have, if there are more; else where the first one stands that may not be.
func each(many, most int, mayBe func(i int) bool) func() int {
	return func() int {
		if many > most {
			return most
		}
		for i := range many {
			if !mayBe(i) {
				return i
			}
		}
		return nowhere
	}
}

// alone looks where what there is once breaks its rule.
func alone(mayBe func() bool) func() int {
	return each(1, 1, func(int) bool { return mayBe() })
}

// lies says whether a number lies between two others, or is one of them.
func lies[N cmp.Ordered](n, from, to N) bool { return from <= n && n <= to }

// isOne says whether a number is that of one of so many.
func isOne(n, many int) bool { return 0 <= n && n < many }

// isOneOrNone says whether a number is that of one of so many, or stands for none.
func isOneOrNone(n, many int) bool { return n == none || isOne(n, many) }

// lightMayBe says whether a light is neither below zero nor too bright.
func lightMayBe(l hue.Hue) bool {
	return lies(l.R, 0, brightest) && lies(l.G, 0, brightest) && lies(l.B, 0, brightest)
}

func (h Header) mayBe() bool {
	return lies(h.Width, 1, api.MaxSide) && lies(h.Height, 1, api.MaxSide) &&
		lies(h.Samples, 1, api.MaxSample) && lies(h.Depth, 1, api.MaxDepth) && lies(h.Frames, 1, api.MaxFrames) &&
		lies(h.Shutter, 0, api.One) && lightMayBe(h.Sky)
}

func (p Paint) mayBe() bool {
	return lies(p.Kind, Matte, Glow) && lightMayBe(p.Color) && lies(p.Rough, 0, api.One)
}

// jointMayBe says whether a joint may be. Its parent stands ahead of it, so that no joint hangs on itself.
func (s Scene) jointMayBe(i int) bool {
	j := s.Joints[i]
	return isOneOrNone(j.Parent, i) && isOneOrNone(j.Move, len(s.Tracks)) && isOneOrNone(j.Turn, len(s.Tracks)) && lies(j.Size, 1, largest)
}

func (s Scene) shapeMayBe(i int) bool {
	x := s.Shapes[i]
	return isOneOrNone(x.Joint, len(s.Joints)) && isOne(x.Paint, len(s.Paints)) && x.rightForm() && x.near()
}

// rightForm says whether a shape has what its kind has, and nothing else.
func (s Shape) rightForm() bool {
	switch s.Kind {
	case Ball:
		return lies(s.Radius, 1, largest) && s.B == api.Vec{} && s.C == api.Vec{}
	case Face:
		return s.Radius == 0
	}
	return false
}

// near says whether no corner lies too far out.
func (s Shape) near() bool {
	high := vec.New(farthest, farthest, farthest)
	low := vec.Neg(high)
	l := s.Corners()
	return vec.Least(low, l...) == low && vec.Greatest(high, l...) == high
}

func (s Scene) lensMayBe() bool {
	return isOne(s.Eye, len(s.Tracks)) && isOne(s.Look, len(s.Tracks)) && lies(s.Wide, 1, widest)
}

// lampTooMany is the shape that is the first lamp too many.
func (s Scene) lampTooMany() int {
	l := s.Lamps()
	if len(l) <= api.MaxLamps {
		return nowhere
	}
	return l[api.MaxLamps]
}
