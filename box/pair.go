package box

import (
	"zoetrope/api"
	"zoetrope/fix"
	"zoetrope/pose"
	"zoetrope/scene"
	"zoetrope/vec"
)

// Pad is by how much boxes are wider than what they hold.
const Pad = api.One / 8

// Pair is a box that moves: as it was, and as it is at last.
type Pair struct {
	Box
	To Box
}

// At is a pair's box at a part of its time.
func (p Pair) At(part api.Fix) Box {
	return Box{Low: vec.Mix(p.Low, p.To.Low, part), High: vec.Mix(p.High, p.To.High, part)}
}

// Whole is the box of all that a pair ever holds.
func (p Pair) Whole() Box { return Join(p.Box, p.To) }

// Both is the pair of some pairs.
func Both(first Pair, l ...Pair) Pair {
	all := first
	for _, p := range l {
		all = Pair{Box: Join(all.Box, p.Box), To: Join(all.To, p.To)}
	}
	return all
}

// reach is how far the box about a ball goes from its middle.
func reach(p pose.Placed) api.Fix { return fix.Add(p.Radius, Pad) }

// Around is the box about a shape at a time.
func Around(p pose.Placed) Box {
	if p.Kind == scene.Ball {
		return Of(p.P[0]).Wider(reach(p))
	}
	return Of(p.P[0], p.P[1:]...).Wider(Pad)
}

// Moving is the pair about a moving shape; where something was held, it is all: what is held doesn't move as the shape does.
func Moving(m pose.Moving) Pair {
	last := m.B
	last.Kind = m.A.Kind
	p := Pair{Box: Around(m.A), To: Around(last)}
	if atAnEnd(p.Low, p.High, p.To.Low, p.To.High, alike(reach(m.A)), alike(reach(last))) {
		return Pair{Box: All(), To: All()}
	}
	return p
}

// atAnEnd says whether a number of some points lies at an end of the span, or beyond it.
func atAnEnd(l ...api.Vec) bool {
	for _, a := range l {
		if max(fix.Abs(a.X), fix.Abs(a.Y), fix.Abs(a.Z)) == api.Most {
			return true
		}
	}
	return false
}
