package tree_test

import (
	"slices"
	"testing"

	"zoetrope/api"
	"zoetrope/box"
	"zoetrope/fix"
	"zoetrope/tree"
)

// Where a row of cubes is cut first.
var cuts = []struct {
	name   string
	l      []box.Pair
	left   []int
	others []int
}{
	{"two heaps", []box.Pair{cube(0, one), cube(90*one, one), cube(one, one), cube(91*one, one), cube(89*one, one)}, []int{0, 2}, []int{1, 3, 4}},
	{"one far away", []box.Pair{cube(0, one), cube(one, one), cube(90*one, one), cube(2*one, one), cube(3*one, one)}, []int{0, 1, 3, 4}, []int{2}},
	{"the other side", []box.Pair{cube(0, one), cube(-one, one), cube(-90*one, one), cube(-2*one, one), cube(-3*one, one)}, []int{2}, []int{0, 1, 3, 4}},
	// Points cost nothing wherever they are cut: the lowest cut, which takes the first eighth.
	{"points", []box.Pair{cube(8*one, 0), cube(7*one, 0), cube(one-1, 0), cube(0, 0), cube(one, 0), cube(2*one, 0)}, []int{2, 3}, []int{0, 1, 4, 5}},
	// 9 lies in the first eighth still, as 10 wouldn't.
	{"points within an eighth", []box.Pair{cube(80*one, 0), cube(0, 0), cube(20*one, 0), cube(30*one, 0), cube(9*one, 0)}, []int{1, 4}, []int{0, 2, 3}},
	// The last one lies in the part 7, not in one of its own, by which it would be cut off alone.
	{"seven at its end", []box.Pair{cube(0, one), cube(70*one, one), cube(80*one, 40*one), cube(69*one, 0), cube(68*one, 0), cube(67*one, 0)}, []int{0, 3, 4, 5}, []int{1, 2}},
	// Both ways cost once 12 and four times 28: the lower cut counts.
	{"as dear on both sides", []box.Pair{cube(0, one), cube(4*one, one), cube(8*one, one), cube(4*one, one), cube(4*one, one)}, []int{0}, []int{1, 2, 3, 4}},
}

// P13.1
func TestCuts(t *testing.T) {
	for _, r := range cuts {
		x := tree.Make(r.l)
		if !slices.Equal(shapesOf(x, x.Nodes[0].Left), r.left) || !slices.Equal(shapesOf(x, x.Nodes[0].Right), r.others) {
			t.Errorf("%s: %v and %v", r.name, shapesOf(x, x.Nodes[0].Left), shapesOf(x, x.Nodes[0].Right))
		}
	}
}

// P13.1: whichever axis is the widest, the cut goes across it; of several as wide ones it is the first one.
func TestAxes(t *testing.T) {
	at := func(x, y, z api.Fix) box.Pair {
		a := v(x*one, y*one, z*one)
		return still(a, a)
	}
	rows := []struct {
		name   string
		l      []box.Pair
		left   []int
		others []int
	}{
		{"X", []box.Pair{at(0, 3, 3), at(8, 0, 0), at(0, 1, 2), at(8, 2, 1), at(0, 0, 0)}, []int{0, 2, 4}, []int{1, 3}},
		{"Y", []box.Pair{at(3, 0, 3), at(0, 8, 0), at(1, 0, 2), at(2, 8, 1), at(0, 0, 0)}, []int{0, 2, 4}, []int{1, 3}},
		{"Z", []box.Pair{at(3, 3, 0), at(0, 0, 8), at(1, 2, 0), at(2, 1, 8), at(0, 0, 0)}, []int{0, 2, 4}, []int{1, 3}},
		{"X as Y", []box.Pair{at(0, 8, 0), at(8, 8, 0), at(0, 0, 1), at(8, 0, 2), at(0, 0, 3)}, []int{0, 2, 4}, []int{1, 3}},
		{"Y as Z", []box.Pair{at(1, 0, 8), at(2, 8, 8), at(3, 0, 0), at(4, 8, 0), at(5, 0, 0)}, []int{0, 2, 4}, []int{1, 3}},
		{"X as Z", []box.Pair{at(0, 1, 8), at(8, 2, 8), at(0, 3, 0), at(8, 4, 0), at(0, 5, 0)}, []int{0, 2, 4}, []int{1, 3}},
	}
	for _, r := range rows {
		x := tree.Make(r.l)
		if !slices.Equal(shapesOf(x, x.Nodes[0].Left), r.left) || !slices.Equal(shapesOf(x, x.Nodes[0].Right), r.others) {
			t.Errorf("%s: %v and %v", r.name, shapesOf(x, x.Nodes[0].Left), shapesOf(x, x.Nodes[0].Right))
		}
	}
}

// P13.1: what counts is the box about the whole way of a pair, its middle and its skin.
func TestMovingPairs(t *testing.T) {
	moving := func(from, to api.Fix) box.Pair { return box.Pair{Box: cube(from, one).Box, To: cube(to, one).Box} }
	// As they begin all lie in one place; by where they end they are two heaps.
	x := tree.Make([]box.Pair{moving(0, 0), moving(0, 80*one), moving(0, one), moving(0, 81*one), moving(0, 82*one)})
	if !slices.Equal(shapesOf(x, 1), []int{0, 2}) {
		t.Errorf("by their ends: %v", x.Order)
	}
	// Those that go ahead and those that go back have their middles in one place.
	x = tree.Make([]box.Pair{moving(0, 80*one), moving(80*one, 0), moving(0, 80*one), moving(80*one, 0), moving(80*one, 0)})
	if !slices.Equal(shapesOf(x, 1), []int{0, 1}) {
		t.Errorf("by their middles: %v", x.Order)
	}
}

// P13.1: trees that another program reckoned.
func TestReckoned(t *testing.T) {
	rows := []struct {
		seed      draw
		n         int
		far, wide api.Fix
		deep      int
		nodes     [][4]int
		order     []int
	}{
		{1, 5, 5 * one, one, 2, [][4]int{{1, 2, 0, 0}, {-1, -1, 0, 3}, {-1, -1, 3, 2}}, []int{0, 2, 4, 1, 3}},
		{2, 9, 5 * one, 2 * one, 3, [][4]int{{1, 2, 0, 0}, {-1, -1, 0, 4}, {3, 4, 0, 0}, {-1, -1, 4, 1}, {-1, -1, 5, 4}}, []int{2, 4, 7, 8, 0, 1, 3, 5, 6}},
		{3, 16, 9 * one, one, 4, [][4]int{{1, 6, 0, 0}, {2, 3, 0, 0}, {-1, -1, 0, 3}, {4, 5, 0, 0}, {-1, -1, 3, 2}, {-1, -1, 5, 3}, {7, 8, 0, 0}, {-1, -1, 8, 3}, {9, 10, 0, 0}, {-1, -1, 11, 3}, {-1, -1, 14, 2}},
			[]int{4, 7, 14, 3, 15, 2, 11, 12, 1, 10, 13, 0, 5, 8, 6, 9}},
		{4, 24, most, 1 << 28, 10, [][4]int{{1, 4, 0, 0}, {2, 3, 0, 0}, {-1, -1, 0, 2}, {-1, -1, 2, 3}, {5, 6, 0, 0}, {-1, -1, 5, 3}, {7, 8, 0, 0}, {-1, -1, 8, 1}, {9, 10, 0, 0}, {-1, -1, 9, 3}, {11, 12, 0, 0},
			{-1, -1, 12, 4}, {13, 14, 0, 0}, {-1, -1, 16, 1}, {15, 16, 0, 0}, {-1, -1, 17, 1}, {17, 18, 0, 0}, {-1, -1, 18, 1}, {19, 20, 0, 0}, {-1, -1, 19, 1}, {-1, -1, 20, 4}},
			[]int{14, 21, 2, 7, 18, 3, 5, 16, 22, 17, 19, 23, 0, 9, 10, 12, 8, 20, 6, 1, 4, 11, 13, 15}},
		{5, 40, 40, 9, 12, [][4]int{{1, 4, 0, 0}, {2, 3, 0, 0}, {-1, -1, 0, 2}, {-1, -1, 2, 3}, {5, 10, 0, 0}, {6, 7, 0, 0}, {-1, -1, 5, 1}, {8, 9, 0, 0}, {-1, -1, 6, 1}, {-1, -1, 7, 4}, {11, 14, 0, 0},
			{12, 13, 0, 0}, {-1, -1, 11, 2}, {-1, -1, 13, 3}, {15, 16, 0, 0}, {-1, -1, 16, 3}, {17, 18, 0, 0}, {-1, -1, 19, 3}, {19, 20, 0, 0}, {-1, -1, 22, 2}, {21, 22, 0, 0}, {-1, -1, 24, 1}, {23, 26, 0, 0},
			{24, 25, 0, 0}, {-1, -1, 25, 2}, {-1, -1, 27, 3}, {27, 28, 0, 0}, {-1, -1, 30, 2}, {29, 30, 0, 0}, {-1, -1, 32, 2}, {31, 32, 0, 0}, {-1, -1, 34, 2}, {-1, -1, 36, 4}},
			[]int{5, 38, 0, 25, 33, 10, 8, 2, 18, 19, 32, 1, 39, 4, 24, 30, 20, 23, 31, 13, 21, 36, 35, 37, 3, 22, 26, 6, 9, 14, 16, 17, 7, 12, 11, 34, 15, 27, 28, 29}},
	}
	for _, r := range rows {
		x := tree.Make(r.seed.pairs(r.n, r.far, r.wide))
		var nodes [][4]int
		for _, n := range x.Nodes {
			nodes = append(nodes, [4]int{n.Left, n.Right, n.First, n.Count})
		}
		if !slices.Equal(nodes, r.nodes) || !slices.Equal(x.Order, r.order) || x.Deep() != r.deep {
			t.Errorf("of %d: %v, %v, %d deep", r.n, nodes, x.Order, x.Deep())
		}
	}
}

// bothOf is the pair about some shapes.
func bothOf(pairs []box.Pair, l []int) box.Pair {
	var in []box.Pair
	for _, shape := range l {
		in = append(in, pairs[shape])
	}
	return box.Both(in[0], in[1:]...)
}

// place is a pair's middle, axis by axis.
func place(p box.Pair) [3]api.Fix {
	a := p.Whole().Middle()
	return [3]api.Fix{a.X, a.Y, a.Z}
}

// partsOf are the parts in which some shapes lie, by the chapter's words; none, if they have no size.
func partsOf(pairs []box.Pair, l []int) []int {
	low, high := place(pairs[l[0]]), place(pairs[l[0]])
	for _, shape := range l {
		for axis, n := range place(pairs[shape]) {
			low[axis], high[axis] = min(low[axis], n), max(high[axis], n)
		}
	}
	widest, size := 0, api.Fix(0)
	for axis := range low {
		if n := fix.Sub(high[axis], low[axis]); n > size {
			widest, size = axis, n
		}
	}
	if size <= 0 {
		return nil
	}
	var parts []int
	for _, shape := range l {
		n := fix.Mul(fix.Div(fix.Sub(place(pairs[shape])[widest], low[widest]), size), 8*one)
		parts = append(parts, min(int(n/one), 7))
	}
	return parts
}

// splitOf is how some shapes are split, by the chapter's words.
func splitOf(pairs []box.Pair, l []int) (first, others []int) {
	parts := partsOf(pairs, l)
	least, found := int64(0), false
	for cut := 1; cut <= 7 && parts != nil; cut++ {
		var sides [2][]int
		for i, shape := range l {
			side := 1
			if parts[i] < cut {
				side = 0
			}
			sides[side] = append(sides[side], shape)
		}
		if len(sides[0]) == 0 || len(sides[1]) == 0 {
			continue
		}
		cost := int64(0)
		for _, side := range sides {
			cost += int64(len(side)) * int64(bothOf(pairs, side).Whole().Skin())
		}
		if !found || cost < least {
			first, others, least, found = sides[0], sides[1], cost, true
		}
	}
	if !found {
		return l[:len(l)/2], l[len(l)/2:]
	}
	return first, others
}

// treeOf is a tree by the chapter's words.
func treeOf(pairs []box.Pair) tree.Tree {
	var x tree.Tree
	var node func(l []int) int
	node = func(l []int) int {
		n := tree.Node{Pair: bothOf(pairs, l), Left: -1, Right: -1, First: len(x.Order), Count: len(l)}
		at := len(x.Nodes)
		x.Nodes = append(x.Nodes, n)
		if len(l) <= 4 {
			x.Order = append(x.Order, l...)
			return at
		}
		first, others := splitOf(pairs, l)
		n.First, n.Count, n.Left, n.Right = 0, 0, node(first), node(others)
		x.Nodes[at] = n
		return at
	}
	node(numbers(len(pairs)))
	return x
}

// P13.1
func TestByDefinition(t *testing.T) {
	d := draw(8)
	var lists [][]box.Pair
	for range 150 {
		lists = append(lists, d.pairs(1+d.below(128), one<<d.below(15), one<<d.below(15)))
	}
	for range 60 {
		lists = append(lists, d.wild(1+d.below(128)), d.pairs(1+d.below(128), api.Fix(d.below(60)), api.Fix(1+d.below(9))))
	}
	lists = append(lists, d.pairs(128, 5*one, one), d.pairs(127, most, most))
	for _, l := range lists {
		got, want := tree.Make(l), treeOf(l)
		if !slices.Equal(got.Nodes, want.Nodes) || !slices.Equal(got.Order, want.Order) {
			t.Fatalf("of %v: %v, not %v", l, got, want)
		}
	}
}

// P13.1: costs go beyond what layer 1 holds; were they held, the lowest cut would count here.
func TestCostsAreNotHeld(t *testing.T) {
	at := func(x api.Fix, by api.Fix) box.Pair { return still(v(x, -by, -by), v(x, by, by)) }
	l := []box.Pair{at(0, 100*one), at(2*one, 0), at(3*one, 100*one), at(4*one, 0), at(8*one, 0)}
	// Below the cut 4: three of a skin held at Most, above it two points; below the cut 1: the first one, and four others whose skin is held.
	x := tree.Make(l)
	if !slices.Equal(shapesOf(x, 1), []int{0, 1, 2}) {
		t.Errorf("%v and %v", shapesOf(x, 1), shapesOf(x, x.Nodes[0].Right))
	}
}

// R3: what is handed in stays, the room behind its end too, and isn't kept.
func TestMakeLeavesItsList(t *testing.T) {
	d := draw(2)
	l := d.pairs(20, 5*one, one)
	kept := slices.Clone(l)
	x, y := tree.Make(l[:13]), tree.Make(l[:13])
	if !slices.Equal(l, kept) {
		t.Error("the list was changed")
	}
	clear(l)
	for i := range y.Nodes {
		y.Nodes[i] = tree.Node{}
	}
	clear(y.Order)
	if want := treeOf(kept[:13]); !slices.Equal(x.Nodes, want.Nodes) || !slices.Equal(x.Order, want.Order) {
		t.Error("the tree shares memory with another one, or with the list")
	}
}
