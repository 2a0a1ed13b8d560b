package path

import (
	"zoetrope/api"
	"zoetrope/coat"
	"zoetrope/dice"
	"zoetrope/fix"
	"zoetrope/hue"
	"zoetrope/ray"
	"zoetrope/scene"
	"zoetrope/view"
)

// What a sample draws once, by dimensions; behind them those of its bounces begin.
const (
	dimOver = iota
	dimDown
	dimPart
	dimBounces
)

// What it draws in each bounce, from the bounce's first dimension on.
const (
	dimLamp = iota
	dimLampU
	dimLampV
	dimTurnU
	dimTurnV
	dimLives
)

// bounceDims is how many dimensions each bounce has: more than it draws by.
const bounceDims = 8

// way is one sample's way of light, followed from the eye back: where it goes on, how much of what it finds there counts, and what was seen so far.
type way struct {
	*Set
	key    dice.Key
	ray    ray.Ray
	weight hue.Hue
	sharp  bool
	seen   Seen
}

// way is the way of a pixel's sample, as it leaves the eye.
func (s *Set) way(x, y, sample int) way {
	k := dice.Key{Seed: s.Seed, Frame: s.Frame, Pixel: y*s.Width + x, Sample: sample}
	part := k.Unit(dimPart)
	return way{
		Set:    s,
		key:    k,
		ray:    view.Mix(s.opened, s.shut, part).Ray(x, y, k.Unit(dimOver), k.Unit(dimDown), part),
		weight: hue.Gray(api.One),
		sharp:  true,
		seen:   Seen{Depth: api.Most, Shape: noShape, Part: part},
	}
}

// bounce follows the way to what it meets next; it answers whether it goes on from there.
func (w *way) bounce(b int) bool {
	hit, met, _ := w.world.First(w.ray, ray.Near, api.Most)
	if !met {
		w.gain(w.Sky)
		return false
	}
	paint := w.paint(hit.Shape)
	if b == 0 {
		w.seen.Depth, w.seen.Normal, w.seen.Point = hit.T, hit.Normal, hit.Point
		w.seen.Base, w.seen.Shape = paint.Color, hit.Shape
	}
	dim := dimBounces + b*bounceDims
	switch paint.Kind {
	case scene.Glow:
		// A way that isn't sharp comes from a matte surface, which has asked the lamps for their light already.
		if w.sharp {
			w.gain(paint.Color)
		}
		return false
	case scene.Matte:
		w.gain(w.fromLamp(hit, paint.Color, dim))
	}
	return w.turn(hit, paint, dim) && (b == 0 || w.lives(dim))
}

// gain adds light that the way has found, as far as it counts.
func (w *way) gain(l hue.Hue) {
	w.seen.Light = hue.Add(w.seen.Light, hue.Mul(w.weight, l))
}

// fromLamp is what comes to a hit of a color from one of the lamps, which stands for all of them.
func (w *way) fromLamp(hit ray.Hit, color hue.Hue, dim int) hue.Hue {
	if len(w.lamps) == 0 {
		return hue.Hue{}
	}
	lamp := w.lamps[w.key.Below(dim+dimLamp, len(w.lamps))]
	if lamp == hit.Shape {
		return hue.Hue{}
	}
	point := coat.Sample(w.Placed(lamp, w.ray.Part), w.key.Unit(dim+dimLampU), w.key.Unit(dim+dimLampV))
	dir, far, much := coat.Reach(hit.Point, hit.Normal, point)
	if much == 0 || w.hidden(lamp, w.from(hit, dir), far) {
		return hue.Hue{}
	}
	return hue.Scale(hue.Mul(color, w.paint(lamp).Color), fix.Mul(much, fix.Of(len(w.lamps))))
}

// hidden says whether another shape stands between a ray's beginning and a lamp, so far on. The lamp's own near side doesn't.
func (w *way) hidden(lamp int, r ray.Ray, far api.Fix) bool {
	hit, met, _ := w.world.First(r, ray.Near, far)
	return met && hit.Shape != lamp
}

// from is the ray from a hit in a direction, at the way's part.
func (w *way) from(hit ray.Hit, dir api.Vec) ray.Ray {
	return ray.Ray{From: hit.Point, Dir: dir, Part: w.ray.Part}
}

// turn lets a paint turn the way at a hit; it answers whether it goes on.
func (w *way) turn(hit ray.Hit, paint scene.Paint, dim int) bool {
	t := coat.Bounce(paint, w.ray.Dir, hit.Normal, w.key.Unit(dim+dimTurnU), w.key.Unit(dim+dimTurnV))
	w.ray = w.from(hit, t.Dir)
	w.weight, w.sharp = hue.Mul(w.weight, t.Let), t.Sharp
	return t.Goes
}

// lives draws whether the way goes on; the less it counts, the less often, but the more then.
func (w *way) lives(dim int) bool {
	weight, lives := coat.Lives(w.weight, w.key.Unit(dim+dimLives))
	w.weight = weight
	return lives
}
