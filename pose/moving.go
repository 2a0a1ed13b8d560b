package pose

import (
	"zoetrope/api"
	"zoetrope/fix"
	"zoetrope/scene"
	"zoetrope/vec"
)

// Moving is a shape while a shutter is open: as it was, and as it is at last.
type Moving struct {
	A Placed
	B Placed
}

// At is a shape at a part of that time.
func (m Moving) At(part api.Fix) Placed {
	// Kind and paint don't move: they stay as they were.
	p := m.A
	for i := range p.P {
		p.P[i] = vec.Mix(m.A.P[i], m.B.P[i], part)
	}
	p.Radius = fix.Lerp(m.A.Radius, m.B.Radius, part)
	return p
}

// Frame are all shapes while a frame's shutter is open; none of a frame that there isn't.
func Frame(s scene.Scene, frame int) []Moving {
	if frame < 0 || frame >= s.Frames {
		return nil
	}
	from, to := Shapes(s, s.Open(frame)), Shapes(s, s.Shut(frame))
	var l []Moving
	for i := range from {
		l = append(l, Moving{A: from[i], B: to[i]})
	}
	return l
}
