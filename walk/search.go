package walk

import (
	"zoetrope/api"
	"zoetrope/box"
	"zoetrope/ray"
	"zoetrope/tree"
)

// search is a ray's way through a world: which nodes are still to be looked into, and what was met first so far.
type search struct {
	World
	ray   ray.Ray
	near  api.Fix
	far   api.Fix
	span  box.Box
	ahead []int
	looks int
	hit   ray.Hit
	met   bool
}

// search is a ray's way through a world, at its beginning.
func (w World) search(r ray.Ray, near, far api.Fix) search {
	s := search{World: w, ray: r, near: near}
	s.upTo(far)
	s.await(0)
	return s
}

// upTo lets nothing be looked for that is farther than that.
func (s *search) upTo(far api.Fix) {
	s.far, s.span = far, s.ray.Span(s.near, far)
}

// await lets a node be looked into later on, if there is such a node.
func (s *search) await(node int) {
	if node >= 0 && node < len(s.Nodes) {
		s.ahead = append(s.ahead, node)
	}
}

// look looks into the next node; it answers false, if none is left.
func (s *search) look() bool {
	// No node of a tree that was made is looked into twice; in any other one this comes to an end, too.
	if len(s.ahead) == 0 || s.looks == len(s.Nodes) {
		return false
	}
	last := len(s.ahead) - 1
	n := s.Nodes[s.ahead[last]]
	s.ahead = s.ahead[:last]
	s.looks++
	switch {
	case !n.At(s.ray.Part).Meets(s.span):
	case n.IsLeaf():
		s.tryAll(n)
	default:
		s.await(n.Right)
		s.await(n.Left)
	}
	return true
}

// tryAll tries all shapes of a leaf; a leaf that wasn't made may tell of places that the order doesn't have.
func (s *search) tryAll(n tree.Node) {
	first := min(max(n.First, 0), len(s.Order))
	count := min(n.Count, len(s.Order)-first)
	for _, shape := range s.Order[first : first+count] {
		if shape >= 0 && shape < len(s.Shapes) {
			s.try(shape)
		}
	}
}

// try looks where a shape is met. What is as far as the first hit is still looked for: its number may be less.
func (s *search) try(shape int) {
	h, ok := s.ray.Test(s.Shapes[shape], s.near, s.far)
	h.Shape = shape
	if ok && (!s.met || h.Before(s.hit)) {
		s.hit, s.met = h, true
		s.upTo(h.T)
	}
}
