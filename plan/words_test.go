package plan_test

import (
	"slices"
	"testing"

	"zoetrope/api"
	"zoetrope/plan"
)

// words is a plan as the chapter's words tell it: which step needs which, at once or through others.
type words struct {
	p     plan.Plan
	needs [][]bool
}

// told is a plan that needs only steps that there are.
func told(p plan.Plan) words {
	w := words{p, make([][]bool, len(p))}
	for i, l := range p {
		w.needs[i] = make([]bool, len(p))
		for _, need := range l {
			w.needs[i][need] = true
		}
	}
	for through := range p {
		for i := range p {
			for need := range p {
				if w.needs[i][through] && w.needs[through][need] {
					w.needs[i][need] = true
				}
			}
		}
	}
	return w
}

// circle tells whether a step needs itself.
func (w words) circle() bool {
	for i := range w.p {
		if w.needs[i][i] {
			return true
		}
	}
	return false
}

// under are all steps that a step needs.
func (w words) under(n int) []int {
	var l []int
	for need, yes := range w.needs[n] {
		if yes {
			l = append(l, need)
		}
	}
	return l
}

// deep is how often all that may be done now is to be done at once, till all is done.
func (w words) deep() int {
	d := make(plan.Done, len(w.p))
	for times := 0; ; times++ {
		l := ready(w.p, d)
		if len(l) == 0 {
			return times
		}
		for _, n := range l {
			d[n] = true
		}
	}
}

// order is made by looking for the lowest step that isn't in it, and all whose needs are.
func (w words) order() []int {
	var l []int
	for len(l) < len(w.p) {
		for n := range w.p {
			if slices.Contains(l, n) {
				continue
			}
			in := 0
			for _, need := range w.p[n] {
				if slices.Contains(l, need) {
					in++
				}
			}
			if in == len(w.p[n]) {
				l = append(l, n)
				break
			}
		}
	}
	return l
}

// ready are the steps that aren't done, and all whose needs are.
func ready(p plan.Plan, d plan.Done) []int {
	was := func(n int) bool { return n >= 0 && n < len(p) && n < len(d) && d[n] }
	var l []int
	for n, needs := range p {
		done := 0
		for _, need := range needs {
			if was(need) {
				done++
			}
		}
		if !was(n) && done == len(needs) {
			l = append(l, n)
		}
	}
	return l
}

// wantWords holds a plan that needs only steps that there are, none twice, to what the chapter's words tell of it.
func wantWords(t *testing.T, p plan.Plan) {
	t.Helper()
	w := told(p)
	if w.circle() {
		wantError(t, p, api.ErrCycle)
		return
	}
	wantOrder(t, p, w.order())
	wantNumber(t, "Deep", p, p.Deep(), w.deep())
	for n := range p {
		wantList(t, "Under", p, p.Under(n), w.under(n))
	}
}

// each hands on all plans of so many steps that need any steps, rising or falling.
func each(n int, hand func(p plan.Plan)) {
	for bits := range 1 << (n * n) {
		p := make(plan.Plan, n)
		for i := range n {
			for need := range n {
				if bits>>(i*n+need)&1 == 1 {
					p[i] = append(p[i], need)
				}
			}
			if bits%3 == i%3 {
				slices.Reverse(p[i])
			}
		}
		hand(p)
	}
}

// P25.1, P25.3: all plans of up to four steps.
func TestAllSmall(t *testing.T) {
	for n := range 5 {
		each(n, func(p plan.Plan) { wantWords(t, p) })
	}
}

// P25.2: all plans of up to three steps, with any of them done, and lists that lack some, or have more.
func TestAllReady(t *testing.T) {
	for n := range 4 {
		each(n, func(p plan.Plan) {
			for size := range n + 3 {
				for bits := range 1 << size {
					d := make(plan.Done, size)
					for i := range d {
						d[i] = bits>>i&1 == 1
					}
					wantReady(t, p, d, ready(p, d))
				}
			}
		})
	}
}

// P25.1, P25.3: drawn plans of all sizes, some of which may be.
func TestDrawn(t *testing.T) {
	d := draw(2)
	for n := range 40 {
		for range 30 {
			wantWords(t, d.right(n, 1+d.below(8)))
			wantWords(t, d.any(n, 1+n*(1+d.below(4))/2))
		}
	}
	for range 4 {
		wantWords(t, d.right(api.MaxNodes-d.below(3), 1+d.below(200)))
	}
}

// P25.2: drawn plans, also ones that may not be, with any of their steps done.
func TestReadyDrawn(t *testing.T) {
	d := draw(3)
	for range 5000 {
		p := d.wrong(d.below(20))
		for range 5 {
			done := d.done(d.below(25))
			wantReady(t, p, done, ready(p, done))
		}
	}
}

// wrong is a plan of so many steps whose needs may be any, also twice, and a few that there aren't.
func (d *draw) wrong(n int) plan.Plan {
	p := make(plan.Plan, n)
	for i := range p {
		for range d.below(4) {
			need := d.below(n)
			if d.below(9) == 0 {
				need = append(far, n, n+1)[d.below(len(far)+2)]
			}
			p[i] = append(p[i], need)
		}
	}
	return p
}

// first is the error that the chapter's words tell first of all.
func first(p plan.Plan) api.Errno {
	for _, l := range p {
		for at, need := range l {
			if need < 0 || need >= len(p) {
				return api.ErrArg
			}
			if slices.Contains(l[:at], need) {
				return api.ErrTwice
			}
		}
	}
	if told(p).circle() {
		return api.ErrCycle
	}
	return api.OK
}

// P25.1: which error is told of drawn plans that may break several rules.
func TestErrorsDrawn(t *testing.T) {
	d := draw(4)
	seen := make([]int, api.ErrOver)
	for range 20000 {
		p := d.wrong(d.below(8))
		e := first(p)
		seen[e]++
		if e == api.OK {
			wantWords(t, p)
		} else {
			wantError(t, p, e)
		}
	}
	if min(seen[api.OK], seen[api.ErrArg], seen[api.ErrTwice], seen[api.ErrCycle]) < 500 {
		t.Errorf("%v", seen)
	}
}

// P25.4: in the order each step stands once, behind all that it needs.
func TestBehind(t *testing.T) {
	d := draw(5)
	for n := range 100 {
		p := d.right(n, 1+d.below(12))
		l, e := p.Order()
		wantNumber(t, "the error of Order", p, int(e), int(api.OK))
		wantNumber(t, "the number of steps in the order", p, len(l), n)
		at := make([]int, n)
		for i, step := range l {
			at[step] = i + 1
		}
		for step, needs := range p {
			for _, need := range needs {
				if at[step] <= at[need] || at[need] == 0 {
					t.Fatalf("%v: %v", p, l)
				}
			}
		}
	}
}

// P25.4: all ways to do the steps of all plans of up to three steps, one at a time.
func TestAllPasts(t *testing.T) {
	var past func(p plan.Plan, d plan.Done)
	past = func(p plan.Plan, d plan.Done) {
		l := p.Ready(d)
		if len(l) == 0 && slices.Contains(d, false) {
			t.Fatalf("%v ends at %v", p, d)
		}
		for _, n := range l {
			next := slices.Clone(d)
			next[n] = true
			past(p, next)
		}
	}
	for n := range 4 {
		each(n, func(p plan.Plan) {
			if p.Check() == api.OK {
				past(p, make(plan.Done, n))
			}
		})
	}
}

// P25.4: drawn steps of drawn plans, one at a time; the lowest ones, and the order is made.
func TestDoneInTheEnd(t *testing.T) {
	d := draw(6)
	for n := range 100 {
		p := d.right(n, 1+d.below(12))
		if n == 99 {
			p = d.right(api.MaxNodes, 30)
		}
		wantEnd(t, p, func(l []int) int { return l[d.below(len(l))] })
		order, _ := p.Order()
		got := wantEnd(t, p, func(l []int) int { return l[0] })
		wantList(t, "Order", p, order, got)
	}
}

// wantEnd does steps of a plan, one at a time, till none may be done any more: then all are; and it tells which, in order.
func wantEnd(t *testing.T, p plan.Plan, pick func(l []int) int) []int {
	t.Helper()
	var past []int
	var done plan.Done
	for l := p.Ready(done); len(l) > 0; l = p.Ready(done) {
		n := pick(l)
		past = append(past, n)
		for len(done) <= n {
			done = append(done, false)
		}
		done[n] = true
	}
	wantNumber(t, "the number of steps that were done", p, len(past), len(p))
	return past
}
