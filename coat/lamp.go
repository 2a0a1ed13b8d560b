package coat

import (
	"zoetrope/api"
	"zoetrope/dice"
	"zoetrope/fix"
	"zoetrope/pose"
	"zoetrope/scene"
	"zoetrope/vec"
)

// Sample is a point on a lamp, by two numbers.
func Sample(p pose.Placed, u, v api.Fix) api.Vec {
	if p.Kind == scene.Ball {
		return vec.Add(p.P[0], vec.Scale(dice.Globe(u, v), p.Radius))
	}
	return sampleFace(p.P, fix.Unit(u), fix.Unit(v))
}

// sampleFace is a point on a face, by two numbers from 0 to One.
func sampleFace(corners [3]api.Vec, u, v api.Fix) api.Vec {
	// Two numbers tell a point of a leaf twice as large as the face: its other half is folded over.
	if u+v > api.One {
		u, v = api.One-u, api.One-v
	}
	first := corners[0]
	return vec.Sum(first, vec.Scale(vec.Sub(corners[1], first), u), vec.Scale(vec.Sub(corners[2], first), v))
}

// Reach is where a point of a lamp lies, seen from a point with a normal: the direction, how far, and how much of the lamp's light comes: less, the farther it is, and the more aslant.
func Reach(at, n, lamp api.Vec) (api.Vec, api.Fix, api.Fix) {
	d := vec.Sub(lamp, at)
	dir, far := vec.Unit(d), vec.Len(d)
	s := vec.Dot(dir, n)
	if s <= 0 {
		return dir, far, 0
	}
	return dir, far, fix.Div(s, fix.Add(api.One, fix.Mul(far, far)))
}
