package plan_test

import (
	"math"
	"slices"
	"testing"

	"zoetrope/api"
	"zoetrope/plan"
)

// The calls, with the signatures that the chapter tells.
var (
	_ func(p plan.Plan) api.Errno                    = plan.Plan.Check
	_ func(d plan.Done, n int) bool                  = plan.Done.Has
	_ func(p plan.Plan, d plan.Done) []int           = plan.Plan.Ready
	_ func(p plan.Plan) ([]int, api.Errno)           = plan.Plan.Order
	_ func(p plan.Plan, d plan.Done) (n int, b bool) = plan.Plan.First
	_ func(p plan.Plan, n int) []int                 = plan.Plan.Under
	_ func(p plan.Plan) int                          = plan.Plan.Deep
	_ [][]int                                        = plan.Plan{}
	_ []bool                                         = plan.Done{}
)

// far are numbers of steps that no plan has.
var far = []int{-1, -2, -256, 257, 1 << 16, 1 << 31, -1 << 31, 1 << 32, 1<<32 + 1, -1 << 32, math.MaxInt, math.MinInt, math.MinInt + 1}

// draw is a list of numbers without any order in them, the same ones in every run.
type draw uint64

// below is the next of them, from 0 on, below n.
func (d *draw) below(n int) int {
	*d = *d*6364136223846793005 + 1442695040888963407
	return int(uint64(*d) >> 32 % uint64(n))
}

// done are steps, so many, of which each was done or not.
func (d *draw) done(n int) plan.Done {
	l := make(plan.Done, n)
	for i := range l {
		l[i] = d.below(2) == 0
	}
	return l
}

// mix is a list from 0 on, below n, in any order.
func (d *draw) mix(n int) []int {
	l := make([]int, n)
	for i := range l {
		at := d.below(i + 1)
		l[i], l[at] = l[at], i
	}
	return l
}

// right is a plan of so many steps that may be: each step needs any of those ahead of it in a list in any order, about one of so many.
func (d *draw) right(n, rare int) plan.Plan {
	p := make(plan.Plan, n)
	l := d.mix(n)
	for i, step := range l {
		for _, at := range d.mix(i) {
			if d.below(rare) == 0 {
				p[step] = append(p[step], l[at])
			}
		}
	}
	return p
}

// any is a plan of so many steps that need any steps, also themselves.
func (d *draw) any(n, rare int) plan.Plan {
	p := make(plan.Plan, n)
	for i := range p {
		for _, need := range d.mix(n) {
			if d.below(rare) == 0 {
				p[i] = append(p[i], need)
			}
		}
	}
	return p
}

// wantList holds a list to be such a one.
func wantList(t *testing.T, what string, p plan.Plan, got, want []int) {
	t.Helper()
	if !slices.Equal(got, want) {
		t.Fatalf("%s of %.300v: %v, not %v", what, p, got, want)
	}
}

// wantNumber holds a number to be such a one.
func wantNumber(t *testing.T, what string, p plan.Plan, got, want int) {
	t.Helper()
	if got != want {
		t.Fatalf("%s of %.300v: %d, not %d", what, p, got, want)
	}
}

// wantError holds a plan to be refused by an error, with nothing beside it.
func wantError(t *testing.T, p plan.Plan, want api.Errno) {
	t.Helper()
	wantNumber(t, "Check", p, int(p.Check()), int(want))
	l, e := p.Order()
	wantNumber(t, "the error of Order", p, int(e), int(want))
	wantList(t, "Order", p, l, nil)
	wantNumber(t, "Deep", p, p.Deep(), 0)
	for n := -1; n < min(len(p), 300)+2; n++ {
		wantList(t, "Under", p, p.Under(n), nil)
	}
}

// wantOrder holds a plan to be one that may be, of that order.
func wantOrder(t *testing.T, p plan.Plan, want []int) {
	t.Helper()
	wantNumber(t, "Check", p, int(p.Check()), int(api.OK))
	l, e := p.Order()
	wantNumber(t, "the error of Order", p, int(e), int(api.OK))
	wantList(t, "Order", p, l, want)
}

// P25.1, P25.3: the chapter's examples, and some small plans.
func TestBySight(t *testing.T) {
	rows := []struct {
		p     plan.Plan
		order []int
		deep  int
		under [][]int
	}{
		{plan.Plan{{1}, {}, {0, 1}}, []int{1, 0, 2}, 3, [][]int{{1}, {}, {0, 1}}},
		{nil, nil, 0, nil},
		{plan.Plan{}, nil, 0, nil},
		{plan.Plan{nil}, []int{0}, 1, [][]int{nil}},
		{plan.Plan{{}, nil, {}}, []int{0, 1, 2}, 1, [][]int{nil, nil, nil}},
		{plan.Plan{{2}, {0}, {}}, []int{2, 0, 1}, 3, [][]int{{2}, {0, 2}, nil}},
		{plan.Plan{{3}, nil, {3}, {1}}, []int{1, 3, 0, 2}, 3, [][]int{{1, 3}, nil, {1, 3}, {1}}},
		// The lowest comes as soon as it may, not with those that became free together with it.
		{plan.Plan{{4}, {5}, nil, {0}, nil, nil}, []int{2, 4, 0, 3, 5, 1}, 3, [][]int{{4}, {5}, nil, {0, 4}, nil, nil}},
		// Two ways of unlike lengths to the same step.
		{plan.Plan{nil, {0}, {1}, {0, 2}, {0}}, []int{0, 1, 2, 3, 4}, 4, [][]int{nil, {0}, {0, 1}, {0, 1, 2}, {0}}},
		{plan.Plan{{3, 1}, {2}, nil, nil}, []int{2, 1, 3, 0}, 3, [][]int{{1, 2, 3}, {2}, nil, nil}},
		// A frame's works, and those of the next one.
		{plan.Plan{nil, {0}, {0, 1}, {2}, nil, {4, 0, 1}, {4, 5}, {6}}, []int{0, 1, 2, 3, 4, 5, 6, 7}, 5, [][]int{nil, {0}, {0, 1}, {0, 1, 2}, nil, {0, 1, 4}, {0, 1, 4, 5}, {0, 1, 4, 5, 6}}},
	}
	for _, row := range rows {
		wantOrder(t, row.p, row.order)
		wantNumber(t, "Deep", row.p, row.p.Deep(), row.deep)
		for n, want := range row.under {
			wantList(t, "Under", row.p, row.p.Under(n), want)
		}
		for _, n := range append([]int{len(row.p), len(row.p) + 1}, far...) {
			wantList(t, "Under", row.p, row.p.Under(n), nil)
		}
	}
}

// P25.1: plans that may not be.
func TestWrongBySight(t *testing.T) {
	rows := []struct {
		p plan.Plan
		e api.Errno
	}{
		{plan.Plan{{1}, {0}}, api.ErrCycle},
		{plan.Plan{{0}}, api.ErrCycle},
		{plan.Plan{{}, {0}, {2}}, api.ErrCycle},
		{plan.Plan{{1}, {2}, {0}}, api.ErrCycle},
		{plan.Plan{{1}, {2}, {3}, {1}, {}}, api.ErrCycle},
		{plan.Plan{{1}}, api.ErrArg},
		{plan.Plan{{-1}}, api.ErrArg},
		{plan.Plan{{}, {}, {3}}, api.ErrArg},
		{plan.Plan{{}, {0, 0}}, api.ErrTwice},
		{plan.Plan{{2, 1, 2}, {}, {}}, api.ErrTwice},
		{plan.Plan{{0, 0}}, api.ErrTwice},
		// Step by step, and need by need; what stands in a circle comes at last.
		{plan.Plan{{1, 1, 5}, {}}, api.ErrTwice},
		{plan.Plan{{1, 5, 1}, {}}, api.ErrArg},
		{plan.Plan{{5, 5}, {}}, api.ErrArg},
		{plan.Plan{{-1, -1}, {}}, api.ErrArg},
		{plan.Plan{{}, {0, 0}, {9}}, api.ErrTwice},
		{plan.Plan{{}, {9}, {0, 0}}, api.ErrArg},
		{plan.Plan{{0}, {9}}, api.ErrArg},
		{plan.Plan{{1}, {0}, {0, 1, 0}}, api.ErrTwice},
		{plan.Plan{{1, 1}, {0}}, api.ErrTwice},
		// What two steps need is needed twice by neither.
		{plan.Plan{{1, 2}, {2}, {0}}, api.ErrCycle},
	}
	for _, row := range rows {
		wantError(t, row.p, row.e)
	}
	for _, n := range far {
		wantError(t, plan.Plan{{}, {0, n}}, api.ErrArg)
		wantError(t, plan.Plan{{n}, {0, 0}}, api.ErrArg)
		wantError(t, plan.Plan{{1}, {0, n}}, api.ErrArg)
	}
}

// P25.1: as many steps as may be, and one more; the limit comes ahead of all else.
func TestLimit(t *testing.T) {
	all := make([]int, api.MaxNodes)
	for i := range all {
		all[i] = i
	}
	wantOrder(t, make(plan.Plan, api.MaxNodes), all)
	for _, n := range []int{api.MaxNodes + 1, api.MaxNodes + 2, 2 * api.MaxNodes, 1 << 16} {
		wantError(t, make(plan.Plan, n), api.ErrLimit)
		p := make(plan.Plan, n)
		for i, l := range [][]int{{-1}, {0, 0}, {2}, {n}, {api.MaxNodes}} {
			p[i] = l
			wantError(t, p, api.ErrLimit)
		}
	}
	p := make(plan.Plan, api.MaxNodes)
	p[api.MaxNodes-1] = []int{api.MaxNodes}
	wantError(t, p, api.ErrArg)
	p[api.MaxNodes-1] = []int{api.MaxNodes - 2, api.MaxNodes - 2}
	wantError(t, p, api.ErrTwice)
	p[api.MaxNodes-1] = []int{api.MaxNodes - 1}
	wantError(t, p, api.ErrCycle)
	p[api.MaxNodes-1] = []int{0, api.MaxNodes - 2}
	wantOrder(t, p, all)
	wantNumber(t, "Deep", p, p.Deep(), 2)
}

// P25.1, P25.3: the largest plans, up and down, each step with as many needs as it may have.
func TestLargest(t *testing.T) {
	const n = api.MaxNodes
	up, down, chain := make(plan.Plan, n), make(plan.Plan, n), make(plan.Plan, n)
	rising, falling := make([]int, n), make([]int, n)
	for i := range n {
		rising[i], falling[i] = i, n-1-i
		for k := range i {
			up[i] = append(up[i], k)
			down[n-1-i] = append(down[n-1-i], n-1-k)
		}
		if i+1 < n {
			chain[i] = []int{i + 1}
		}
	}
	wantOrder(t, up, rising)
	wantOrder(t, down, falling)
	wantOrder(t, chain, falling)
	for _, p := range []plan.Plan{up, down, chain} {
		wantNumber(t, "Deep", p, p.Deep(), n)
	}
	for i := range n {
		wantList(t, "Under", up, up.Under(i), rising[:i])
		wantList(t, "Under", down, down.Under(i), rising[i+1:])
		wantList(t, "Under", chain, chain.Under(i), rising[i+1:])
	}
	// One need more, and all of them stand in a circle.
	chain[n-1] = []int{0}
	wantError(t, chain, api.ErrCycle)
	up[0] = []int{n - 1}
	wantError(t, up, api.ErrCycle)
}

// R1, P25.1, P25.3: a plan in which there are more ways from step to step than any call could go.
func TestManyWays(t *testing.T) {
	p := make(plan.Plan, api.MaxNodes)
	want := make([]int, api.MaxNodes)
	for i := range p {
		want[i] = i
		if row := i &^ 1; row > 0 {
			p[i] = []int{row - 1, row - 2}
		}
	}
	wantOrder(t, p, want)
	wantNumber(t, "Deep", p, p.Deep(), api.MaxNodes/2)
	for i := range p {
		wantList(t, "Under", p, p.Under(i), want[:i&^1])
	}
	p[0] = []int{api.MaxNodes - 1}
	wantError(t, p, api.ErrCycle)
}

// R1: a great many needs, also of plans that may not be.
func TestManyNeeds(t *testing.T) {
	many := make([]int, 1<<20)
	wantError(t, plan.Plan{nil, many}, api.ErrTwice)
	p := plan.Plan{nil, many, {1}}
	wantList(t, "Ready", p, p.Ready(nil), []int{0})
	wantList(t, "Ready", p, p.Ready(plan.Done{true}), []int{1})
	many[len(many)-1] = 2
	wantList(t, "Ready", p, p.Ready(plan.Done{true}), nil)
}

// P25.2: steps that were done, and all others.
func TestHas(t *testing.T) {
	d := draw(1)
	for n := range 40 {
		l := d.done(n)
		for i, want := range l {
			if l.Has(i) != want {
				t.Fatalf("%v: %d", l, i)
			}
		}
		for _, i := range append([]int{n, n + 1}, far...) {
			if l.Has(i) {
				t.Fatalf("%v: %d was done", l, i)
			}
		}
	}
	long := make(plan.Done, 1000)
	long[999] = true
	if !long.Has(999) || long.Has(998) || long.Has(1000) || long[:999:999].Has(999) || long[:998].Has(999) {
		t.Error("beyond what a plan may have")
	}
	if plan.Done(nil).Has(0) {
		t.Error("of no list")
	}
}

// wantReady holds a plan's steps that may be done now to be such, and the first of them.
func wantReady(t *testing.T, p plan.Plan, d plan.Done, want []int) {
	t.Helper()
	wantList(t, "Ready", p, p.Ready(d), want)
	n, ok := p.First(d)
	if ok != (len(want) > 0) || ok && n != want[0] || !ok && n != 0 {
		t.Fatalf("First of %.300v, of which %v: %d, %t, not of %v", p, d, n, ok, want)
	}
}

// P25.2: small plans, of which something was done, also ones that may not be.
func TestReadyBySight(t *testing.T) {
	const yes, no = true, false
	small := plan.Plan{{1}, {}, {0, 1}}
	rows := []struct {
		p    plan.Plan
		d    plan.Done
		want []int
	}{
		{small, nil, []int{1}},
		{small, plan.Done{}, []int{1}},
		{small, plan.Done{no, yes}, []int{0}},
		{small, plan.Done{yes, yes}, []int{2}},
		{small, plan.Done{yes, yes, no}, []int{2}},
		{small, plan.Done{yes, yes, yes}, nil},
		{small, plan.Done{yes, yes, yes, yes, yes}, nil},
		{small, plan.Done{no, yes, no, yes, yes}, []int{0}},
		// A step may be done that those aren't which it stands behind: what counts is what it needs itself.
		{small, plan.Done{yes}, []int{1}},
		{small, plan.Done{yes, no, yes}, []int{1}},
		{plan.Plan{{1}, {2}, {}}, plan.Done{no, yes}, []int{0, 2}},
		{nil, nil, nil},
		{nil, plan.Done{yes, no}, nil},
		{plan.Plan{{}, {}, {}}, nil, []int{0, 1, 2}},
		{plan.Plan{{}, {}, {}}, plan.Done{no, yes}, []int{0, 2}},
		// Needs that there aren't are never done, whatever the list says.
		{plan.Plan{{1}}, plan.Done{no, yes}, nil},
		{plan.Plan{{2}, {0}}, plan.Done{no, no, yes}, nil},
		{plan.Plan{{-1}, {}}, plan.Done{yes, yes, yes}, nil},
		{plan.Plan{{-1}, {}}, nil, []int{1}},
		{plan.Plan{{1, 2}, {}}, plan.Done{no, yes, yes}, nil},
		{plan.Plan{{2, 1}, {}}, plan.Done{no, yes, yes}, nil},
		// Needs that stand twice, and circles.
		{plan.Plan{{1, 1}, {}}, nil, []int{1}},
		{plan.Plan{{1, 1}, {}}, plan.Done{no, yes}, []int{0}},
		{plan.Plan{{0}}, nil, nil},
		{plan.Plan{{0}}, plan.Done{yes}, nil},
		{plan.Plan{{1}, {0}}, nil, nil},
		{plan.Plan{{1}, {0}}, plan.Done{no, yes}, []int{0}},
		{plan.Plan{{1}, {0}}, plan.Done{yes, yes}, nil},
	}
	for _, row := range rows {
		wantReady(t, row.p, row.d, row.want)
	}
	for _, n := range far {
		wantReady(t, plan.Plan{{n}, {0, n}}, plan.Done{true, false, true}, nil)
		wantReady(t, plan.Plan{{n}, {0}}, plan.Done{true, false, true}, []int{1})
	}
}

// P25.2: more steps than a plan may have: what may be done now is told of them, too.
func TestReadyOfTooMany(t *testing.T) {
	const n = 3*api.MaxNodes + 1
	p, d := make(plan.Plan, n), make(plan.Done, n)
	for i := range p {
		if i > 0 {
			p[i] = []int{i - 1}
		}
	}
	for i := range p {
		wantReady(t, p, d[:i], []int{i})
		wantReady(t, p, d, []int{i})
		d[i] = true
	}
	wantReady(t, p, d, nil)
}

// R3: what is handed in isn't changed, nor the room behind its end; and it isn't kept.
func TestUnchanged(t *testing.T) {
	room := []int{0, 7, 7}
	p := append(make(plan.Plan, 0, 5), room[:1], nil, []int{1, 0}, nil)
	behind := p[:5]
	behind[4] = []int{9}
	p[0], p[3] = []int{1}, room[:1]
	d := plan.Done{false, true, false, true, true}
	for range 3 {
		wantOrder(t, p, []int{1, 0, 2, 3})
		wantNumber(t, "Deep", p, p.Deep(), 3)
		wantList(t, "Under", p, p.Under(2), []int{0, 1})
		wantReady(t, p, d[:2], []int{0})
	}
	if !slices.Equal(room, []int{0, 7, 7}) || !slices.Equal(d, plan.Done{false, true, false, true, true}) {
		t.Errorf("%v, %v", room, d)
	}
	if len(p[0]) != 1 || p[0][0] != 1 || p[1] != nil || !slices.Equal(p[2], []int{1, 0}) || &p[3][0] != &room[0] || !slices.Equal(behind[4], []int{9}) {
		t.Errorf("%v", behind)
	}
	p[2] = nil
	wantOrder(t, p, []int{1, 0, 2, 3})
	wantNumber(t, "Deep", p, p.Deep(), 3)
	wantList(t, "Under", p, p.Under(2), nil)
}

// spoil writes into a list and the room behind its end.
func spoil(l []int) {
	for i := range l[:cap(l)] {
		l[:cap(l)][i] = -77
	}
}

// R3: each answer is new memory.
func TestNewMemory(t *testing.T) {
	p := plan.Plan{{1}, {}, {0, 1}, {2, 0}}
	for range 3 {
		l, _ := p.Order()
		wantList(t, "Order", p, l, []int{1, 0, 2, 3})
		under := p.Under(3)
		wantList(t, "Under", p, under, []int{0, 1, 2})
		ready := p.Ready(plan.Done{false, true})
		wantList(t, "Ready", p, ready, []int{0})
		more, _ := p.Order()
		spoil(l)
		spoil(under)
		spoil(ready)
		wantList(t, "Order", p, more, []int{1, 0, 2, 3})
	}
	if !slices.EqualFunc(p, plan.Plan{{1}, {}, {0, 1}, {2, 0}}, slices.Equal) {
		t.Errorf("%v", p)
	}
}
