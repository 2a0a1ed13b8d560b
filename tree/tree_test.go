package tree_test

import (
	"math"
	"slices"
	"testing"

	"zoetrope/api"
	"zoetrope/box"
	"zoetrope/tree"
)

// The calls, with the signatures that the chapter tells.
var (
	_ func(pairs []box.Pair) tree.Tree = tree.Make
	_ func(tree.Node) bool             = tree.Node.IsLeaf
	_ func(tree.Tree) int              = tree.Tree.Deep
	_ [4]struct{}                      = [tree.Leaf]struct{}{}
	_ [8]struct{}                      = [tree.Bins]struct{}{}
	_ struct {
		box.Pair
		Left, Right, First, Count int
	} = tree.Node{}
	_ struct {
		Nodes []tree.Node
		Order []int
	} = tree.Tree{}
)

const (
	one  = api.One
	most = api.Most
)

// v is a point of three numbers, in units.
func v(x, y, z api.Fix) api.Vec { return api.Vec{X: x, Y: y, Z: z} }

// draw is a list of numbers without any order in them, the same ones in every run.
type draw uint64

// below is the next of them, from 0 on, below n.
func (d *draw) below(n int) int {
	*d = *d*6364136223846793005 + 1442695040888963407
	return int(uint64(*d) >> 32 % uint64(n))
}

// between is the next of them, from one end to the other.
func (d *draw) between(from, to api.Fix) api.Fix { return from + api.Fix(d.below(int(to-from+1))) }

// point is a point of the next of them.
func (d *draw) point(far api.Fix) api.Vec {
	return v(d.between(-far, far), d.between(-far, far), d.between(-far, far))
}

// wider is a point that isn't below another one, and less than so much above it.
func (d *draw) wider(a api.Vec, wide api.Fix) api.Vec {
	return v(a.X+api.Fix(d.below(int(wide))), a.Y+api.Fix(d.below(int(wide))), a.Z+api.Fix(d.below(int(wide))))
}

// pair is a box that moves.
func (d *draw) pair(far, wide api.Fix) box.Pair {
	a := d.point(far)
	b := d.wider(a, wide)
	by := d.point(wide)
	c := v(a.X+by.X, a.Y+by.Y, a.Z+by.Z)
	return box.Pair{Box: box.Box{Low: a, High: b}, To: box.Box{Low: c, High: d.wider(c, wide)}}
}

// pairs are some of them.
func (d *draw) pairs(n int, far, wide api.Fix) []box.Pair {
	var l []box.Pair
	for range n {
		l = append(l, d.pair(far, wide))
	}
	return l
}

// wild are pairs of any numbers at all: beyond the span too, and with corners that are the wrong way round.
func (d *draw) wild(n int) []box.Pair {
	ends := []api.Fix{math.MinInt64, -most - 1, -most, -7 * one, -1, 0, 1, one, 7 * one, most, most + 1, math.MaxInt64}
	point := func() api.Vec { return v(ends[d.below(12)], ends[d.below(12)], ends[d.below(12)]) }
	var l []box.Pair
	for range n {
		l = append(l, box.Pair{Box: box.Box{Low: point(), High: point()}, To: box.Box{Low: point(), High: point()}})
	}
	return l
}

// still is a box that doesn't move.
func still(low, high api.Vec) box.Pair {
	b := box.Box{Low: low, High: high}
	return box.Pair{Box: b, To: b}
}

// cube is one about a middle on the axis X, so wide on each side.
func cube(middle, by api.Fix) box.Pair { return still(v(middle-by, -by, -by), v(middle+by, by, by)) }

// numbers are the whole numbers from 0 on.
func numbers(n int) []int {
	var l []int
	for i := range n {
		l = append(l, i)
	}
	return l
}

// shapesOf are the shapes of a node, in the order of a tree.
func shapesOf(x tree.Tree, node int) []int {
	n := x.Nodes[node]
	if n.IsLeaf() {
		return x.Order[n.First : n.First+n.Count]
	}
	return append(slices.Clone(shapesOf(x, n.Left)), shapesOf(x, n.Right)...)
}

// P13.1, P13.2: of none, and of more than there may be.
func TestNone(t *testing.T) {
	for _, l := range [][]box.Pair{nil, {}, make([]box.Pair, 129), make([]box.Pair, 500)} {
		x := tree.Make(l)
		if len(x.Nodes) != 0 || len(x.Order) != 0 || x.Deep() != 0 {
			t.Errorf("of %d: %v, %d deep", len(l), x, x.Deep())
		}
	}
	if (tree.Tree{}).Deep() != 0 {
		t.Error("an empty one is deep")
	}
}

// P13.1, P13.2: up to four shapes are a leaf, in their order.
func TestOneLeaf(t *testing.T) {
	d := draw(3)
	for n := 1; n <= 4; n++ {
		l := d.pairs(n, 5*one, one)
		x := tree.Make(l)
		want := tree.Node{Pair: box.Both(l[0], l[1:]...), Left: -1, Right: -1, Count: n}
		if !slices.Equal(x.Nodes, []tree.Node{want}) || !slices.Equal(x.Order, numbers(n)) || x.Deep() != 1 {
			t.Errorf("of %d: %v, %d deep", n, x, x.Deep())
		}
	}
}

// P13.1
func TestIsLeaf(t *testing.T) {
	rows := []struct {
		n    tree.Node
		want bool
	}{
		{tree.Node{}, false}, {tree.Node{Count: 1}, true}, {tree.Node{Count: 4}, true}, {tree.Node{Count: math.MaxInt}, true}, {tree.Node{Count: -1}, false}, {tree.Node{Count: math.MinInt}, false},
		{tree.Node{Left: 1, Right: 2}, false}, {tree.Node{Left: -1, Right: -1}, false}, {tree.Node{Left: -1, Right: -1, First: 3}, false}, {tree.Node{Left: 1, Right: 2, First: 9, Count: 2}, true},
	}
	for _, r := range rows {
		if got := r.n.IsLeaf(); got != r.want {
			t.Errorf("%v is a leaf: %v", r.n, got)
		}
	}
}

// P13.1, P13.2: what lies in one place is halved, the lesser half first.
func TestAlike(t *testing.T) {
	rows := []struct{ n, left, nodes, deep int }{
		{5, 2, 3, 2}, {6, 3, 3, 2}, {7, 3, 3, 2}, {8, 4, 3, 2}, {9, 4, 5, 3}, {16, 8, 7, 3}, {17, 8, 9, 4}, {127, 63, 63, 6}, {128, 64, 63, 6},
	}
	pairs := []box.Pair{{}, cube(3*one, one), cube(most, one), box.Pair{Box: box.All(), To: box.All()}, box.Pair{Box: box.Box{Low: v(one, one, one)}}}
	for _, r := range rows {
		for _, p := range pairs {
			x := tree.Make(slices.Repeat([]box.Pair{p}, r.n))
			if len(x.Nodes) != r.nodes || x.Deep() != r.deep || !slices.Equal(x.Order, numbers(r.n)) || x.Nodes[0].Left != 1 || !slices.Equal(shapesOf(x, 1), numbers(r.left)) {
				t.Errorf("of %d alike: %d nodes, %d deep, left %v", r.n, len(x.Nodes), x.Deep(), shapesOf(x, 1))
			}
		}
	}
}

// P13.2: a node stands in the one that leads to it, however many stand beside it.
func TestDeep(t *testing.T) {
	// Each of them lies so far from the ones before it that it is cut off alone.
	var l []box.Pair
	for i := range 26 {
		l = append(l, cube(1<<i, 0))
	}
	x := tree.Make(l)
	far := 0
	for at := 0; !x.Nodes[at].IsLeaf(); far++ {
		at = x.Nodes[at].Left
	}
	if x.Deep() != far+1 || far < 6 {
		t.Errorf("%d deep, %d to the left: %v", x.Deep(), far, x.Nodes)
	}
	d := draw(14)
	for range 60 {
		x := tree.Make(d.pairs(1+d.below(128), 5*one, one<<d.below(4)))
		if got, want := x.Deep(), deepFrom(x, 0); got != want {
			t.Fatalf("%d deep, not %d: %v", got, want, x.Nodes)
		}
	}
}

// deepFrom is how many nodes stand one in the other, from one on.
func deepFrom(x tree.Tree, node int) int {
	n := x.Nodes[node]
	if n.IsLeaf() {
		return 1
	}
	return 1 + max(deepFrom(x, n.Left), deepFrom(x, n.Right))
}

// P13.3
func TestWhatATreeHolds(t *testing.T) {
	d := draw(6)
	for range 150 {
		far := one << d.below(15)
		l := d.pairs(1+d.below(128), far, far>>d.below(8)+1)
		x := tree.Make(l)
		sorted := slices.Sorted(slices.Values(x.Order))
		if !slices.Equal(sorted, numbers(len(l))) {
			t.Fatalf("the order is %v", x.Order)
		}
		next := 0
		for i, n := range x.Nodes {
			if n.IsLeaf() {
				if n.First != next || n.Count > 4 || n.Left != -1 || n.Right != -1 {
					t.Fatalf("node %d: %v, where the next place is %d", i, n, next)
				}
				next += n.Count
			} else if n.First != 0 || n.Count != 0 || n.Left != i+1 || n.Right <= n.Left || n.Right >= len(x.Nodes) {
				t.Fatalf("node %d: %v", i, n)
			}
			for _, shape := range shapesOf(x, i) {
				holds(t, n.Pair, l[shape])
			}
			if !n.IsLeaf() {
				holds(t, n.Pair, x.Nodes[n.Left].Pair)
				holds(t, n.Pair, x.Nodes[n.Right].Pair)
			}
		}
		if next != len(l) {
			t.Fatalf("the leaves have %d of %d", next, len(l))
		}
	}
}

// holds tells whether a pair holds another one, at each part of its time.
func holds(t *testing.T, p, in box.Pair) {
	t.Helper()
	if !p.Holds(in.Box) || !p.To.Holds(in.To) || !p.At(one/3).Holds(in.At(one/3)) {
		t.Fatalf("%v doesn't hold %v", p, in)
	}
}

// R1: trees that weren't made end, too.
func TestDeepEnds(t *testing.T) {
	ends := []int{math.MinInt, -1, 0, 1, 2, 3, 4, math.MaxInt}
	d := draw(5)
	for range 500 {
		var x tree.Tree
		for range d.below(6) {
			x.Nodes = append(x.Nodes, tree.Node{Left: ends[d.below(8)], Right: ends[d.below(8)], First: ends[d.below(8)], Count: ends[d.below(8)]})
		}
		x.Deep()
	}
}
