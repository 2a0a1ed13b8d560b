package tree

import (
	"zoetrope/api"
	"zoetrope/box"
	"zoetrope/fix"
	"zoetrope/vec"
)

// maker is a tree that is being made of some shapes' pairs.
type maker struct {
	Tree
	pairs []box.Pair
}

// Make is the tree of some shapes' pairs.
func Make(pairs []box.Pair) Tree {
	if len(pairs) == 0 || len(pairs) > api.MaxShapes {
		return Tree{}
	}
	m := maker{pairs: pairs}
	var all []int
	for shape := range pairs {
		all = append(all, shape)
	}
	m.add(all)
	return m.Tree
}

// add makes the node of some shapes, and behind it all nodes in it; it answers the node's number.
func (m *maker) add(l []int) int {
	number := len(m.Nodes)
	if len(l) <= Leaf {
		m.Nodes = append(m.Nodes, Node{Pair: m.both(l), Left: -1, Right: -1, First: len(m.Order), Count: len(l)})
		m.Order = append(m.Order, l...)
		return number
	}
	m.Nodes = append(m.Nodes, Node{Pair: m.both(l)})
	first, others := m.split(l)
	left, right := m.add(first), m.add(others)
	m.Nodes[number].Left, m.Nodes[number].Right = left, right
	return number
}

// both is the pair of some shapes.
func (m *maker) both(l []int) box.Pair {
	var rest []box.Pair
	for _, shape := range l[1:] {
		rest = append(rest, m.pairs[shape])
	}
	return box.Both(m.pairs[l[0]], rest...)
}

// split tells apart a node's shapes: by the cut that costs least; in halves, if there is none.
func (m *maker) split(l []int) (first, others []int) {
	half := len(l) / 2
	first, others = l[:half], l[half:]
	parts, least, found := m.parts(l), int64(0), false
	for cut := 1; cut < Bins; cut++ {
		below, above := divide(l, parts, cut)
		if len(below) == 0 || len(above) == 0 {
			continue
		}
		cost := m.cost(below) + m.cost(above)
		if !found || cost < least {
			first, others, least, found = below, above, cost, true
		}
	}
	return first, others
}

// parts are in which part of their middles' box some shapes lie, along its widest axis.
func (m *maker) parts(l []int) []int {
	var middles []api.Vec
	for _, shape := range l {
		middles = append(middles, m.pairs[shape].Whole().Middle())
	}
	all := box.Of(middles[0], middles[1:]...)
	size := all.Size()
	axis := vec.Widest(size)
	low, wide := vec.At(all.Low, axis), vec.At(size, axis)
	var parts []int
	for _, a := range middles {
		// Where all lie in one place this is 0 by 0, which is 0: all are in one part, and no cut tells them apart.
		share := fix.Div(fix.Sub(vec.At(a, axis), low), wide)
		parts = append(parts, min(fix.Whole(fix.Mul(share, fix.Of(Bins))), Bins-1))
	}
	return parts
}

// divide tells apart those shapes whose parts are below a cut, and the others.
func divide(l, parts []int, cut int) (below, above []int) {
	for i, shape := range l {
		if parts[i] < cut {
			below = append(below, shape)
		} else {
			above = append(above, shape)
		}
	}
	return below, above
}

// cost is what one side of a cut costs. It isn't held: counts are no numbers of layer 1.
func (m *maker) cost(l []int) int64 {
	return int64(len(l)) * int64(m.both(l).Whole().Skin())
}
