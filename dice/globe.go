package dice

import (
	"zoetrope/api"
	"zoetrope/fix"
	"zoetrope/vec"
	"zoetrope/wave"
)

// Globe is any direction of the length One: u tells how high it points, v where it points all around.
func Globe(u, v api.Fix) api.Vec {
	z := api.One - 2*fix.Unit(u)
	r := fix.Root(api.One - fix.Mul(z, z))
	return vec.New(fix.Mul(r, wave.Cos(v)), fix.Mul(r, wave.Sin(v)), z)
}

// Dome is a direction on the side of n, the more often the nearer to n. It is n, where what comes out isn't on that side:
// what points just away from n is rounded, and behind zero there is no side.
func Dome(n api.Vec, u, v api.Fix) api.Vec {
	d := vec.Unit(vec.Add(Globe(u, v), n))
	if vec.Dot(d, n) <= 0 {
		return n
	}
	return d
}
