package drum_test

import (
	"math"
	"testing"

	"zoetrope/api"
	"zoetrope/drum"
)

// P23.3: with each fuse just so many steps are done; the next one isn't, and the power is gone.
func TestFuse(t *testing.T) {
	for fuse := range 12 {
		for first := range 2 {
			d := made(t, 20)
			want(t, "Fuse", d.Fuse(fuse), api.OK)
			wantGauge(t, d, 0, false)
			var loose []int
			for i := range fuse {
				if (i+first)%3 == 2 {
					want(t, "Sync", d.Sync(), api.OK)
					loose = nil
				} else {
					put(t, d, i, mark(i))
					loose = append(loose, i)
				}
				wantGauge(t, d, i+1, false, loose...)
			}
			if first == 0 {
				want(t, "Write", d.Write(19, mark(99)), api.ErrDown)
			} else {
				want(t, "Sync", d.Sync(), api.ErrDown)
			}
			wantGauge(t, d, fuse, true, loose...)
			want(t, "Crash", d.Crash(), api.OK)
			wantGauge(t, d, fuse, false)
			wantBlock(t, d, 19, drum.Block{})
		}
	}
}

// P23.3: a fuse of many steps, on the greatest device.
func TestLongFuse(t *testing.T) {
	const fuse = 1<<16 + 3
	d := made(t, api.MaxBlocks)
	want(t, "Fuse", d.Fuse(fuse), api.OK)
	for i := range fuse - 1 {
		put(t, d, i%api.MaxBlocks, mark(i))
	}
	want(t, "Sync", d.Sync(), api.OK)
	wantGauge(t, d, fuse, false)
	want(t, "Sync", d.Sync(), api.ErrDown)
	want(t, "Crash", d.Crash(), api.OK)
	for at := range api.MaxBlocks {
		last := 1<<16 - api.MaxBlocks + at
		if at < 2 {
			last = 1<<16 + at
		}
		wantBlock(t, d, at, mark(last))
	}
}

// P23.3: neither the write that isn't done changes the block, nor the sync that isn't done what lasts.
func TestNotDone(t *testing.T) {
	for kept := range 2 {
		d := made(t, 2)
		put(t, d, 0, mark(1))
		want(t, "Sync", d.Sync(), api.OK)
		put(t, d, 0, mark(2))
		want(t, "Fuse", d.Fuse(0), api.OK)
		wantBlock(t, d, 0, mark(2))
		want(t, "Write", d.Write(0, mark(3)), api.ErrDown)
		wantGauge(t, d, 3, true, 0)
		want(t, "Crash", d.Crash([]int{1, 0}[kept]), api.OK)
		wantBlock(t, d, 0, mark(1+kept))

		put(t, d, 1, mark(4))
		want(t, "Fuse", d.Fuse(0), api.OK)
		want(t, "Sync", d.Sync(), api.ErrDown)
		wantGauge(t, d, 4, true, 1)
		want(t, "Crash", d.Crash([]int{0, 1}[kept]), api.OK)
		wantBlock(t, d, 1, []drum.Block{{}, mark(4)}[kept])
	}
}

// P23.3: a fuse of 0 doesn't let the power go by itself: what is no step is answered, ahead of it.
func TestFuseZero(t *testing.T) {
	d := made(t, 3)
	put(t, d, 1, mark(1))
	want(t, "Fuse", d.Fuse(0), api.OK)
	for _, at := range far(3) {
		want(t, "Write", d.Write(at, mark(2)), api.ErrArg)
		wantRefused(t, d, at, api.ErrArg)
	}
	wantBlock(t, d, 1, mark(1))
	wantGauge(t, d, 1, false, 1)
	want(t, "Fuse", d.Fuse(1), api.OK)
	want(t, "Sync", d.Sync(), api.OK)
	want(t, "Sync", d.Sync(), api.ErrDown)
}

// P23.3: a fuse stands in the place of the one ahead of it; below 0 there is none.
func TestFuseAnew(t *testing.T) {
	for _, fuse := range []int{-1, -2, -100, -1 << 32, math.MinInt, math.MinInt + 1} {
		d := made(t, 2)
		want(t, "Fuse", d.Fuse(1), api.OK)
		want(t, "Fuse", d.Fuse(fuse), api.OK)
		for i := range 200 {
			put(t, d, 0, mark(i))
			want(t, "Sync", d.Sync(), api.OK)
		}
		wantGauge(t, d, 400, false)
	}
	for _, fuse := range []int{1 << 32, 1<<32 - 1, math.MaxInt, math.MaxInt - 1} {
		d := made(t, 2)
		want(t, "Fuse", d.Fuse(fuse), api.OK)
		for range 10 {
			want(t, "Sync", d.Sync(), api.OK)
		}
		want(t, "Fuse", d.Fuse(2), api.OK)
		want(t, "Fuse", d.Fuse(3), api.OK)
		for range 3 {
			want(t, "Sync", d.Sync(), api.OK)
		}
		want(t, "Sync", d.Sync(), api.ErrDown)
		wantGauge(t, d, 13, true)
	}
}

// P23.1: a new device has no fuse.
func TestNoFuse(t *testing.T) {
	d := made(t, 1)
	for i := range 5000 {
		want(t, "Sync", d.Sync(), api.OK)
		wantGauge(t, d, i+1, false)
	}
}

// P23.3: behind a crash there is no fuse, whether the power was gone ahead of it or not.
func TestNoFuseBehindCrash(t *testing.T) {
	for fuse := range 4 {
		d := made(t, 2)
		want(t, "Fuse", d.Fuse(fuse), api.OK)
		e := d.Write(0, mark(1))
		if fuse == 0 {
			want(t, "Write", e, api.ErrDown)
		}
		want(t, "Crash", d.Crash(0), api.OK)
		steps := d.Steps()
		for i := range 20 {
			put(t, d, 1, mark(i))
			want(t, "Sync", d.Sync(), api.OK)
		}
		wantGauge(t, d, steps+40, false)
	}
}

// wantGone holds a device without power to answer nothing but what it tells of itself.
func wantGone(t *testing.T, d *drum.Drum, blocks, steps int, loose ...int) {
	t.Helper()
	for range 2 {
		for _, at := range append(far(blocks), 0, blocks-1) {
			want(t, "Write", d.Write(at, mark(1)), api.ErrDown)
			wantRefused(t, d, at, api.ErrDown)
			want(t, "Fuse", d.Fuse(at), api.ErrDown)
		}
		want(t, "Sync", d.Sync(), api.ErrDown)
		want(t, "Fuse", d.Fuse(0), api.ErrDown)
		wantGauge(t, d, steps, true, loose...)
		if d.Blocks() != blocks {
			t.Fatalf("%d blocks, not %d", d.Blocks(), blocks)
		}
	}
}

// P23.2, P23.3: while the power is gone, nothing is done or read, but the device tells how it stands; a crash brings the power back.
func TestGone(t *testing.T) {
	d := made(t, 6)
	put(t, d, 5, mark(5))
	put(t, d, 4, mark(4))
	want(t, "Sync", d.Sync(), api.OK)
	put(t, d, 3, mark(3))
	put(t, d, 2, mark(2))
	put(t, d, 5, mark(55))
	want(t, "Fuse", d.Fuse(0), api.OK)
	want(t, "Sync", d.Sync(), api.ErrDown)
	wantGone(t, d, 6, 6, 2, 3, 5)
	want(t, "Crash", d.Crash(2, 0), api.OK)
	wantGauge(t, d, 6, false)
	for at, b := range []drum.Block{{}, {}, mark(2), {}, mark(4), mark(5)} {
		wantBlock(t, d, at, b)
	}
	// No fuse that was refused is left behind.
	for range 5 {
		want(t, "Sync", d.Sync(), api.OK)
	}
}

// done is one call on a device, and what it answered.
type done struct {
	call string
	at   int
	b    drum.Block
	keep []int
	e    api.Errno
}

// past is all that was done to a device.
type past []done

// written is what was written last to a block since the last sync or crash, if anything was.
func (p past) written(at int) (drum.Block, bool) {
	for i := len(p) - 1; i >= 0; i-- {
		switch c := p[i]; {
		case c.e != api.OK && c.call != "crash":
		case c.call == "sync" || c.call == "crash":
			return drum.Block{}, false
		case c.call == "write" && c.at == at:
			return c.b, true
		}
	}
	return drum.Block{}, false
}

// lasts is how a block lasts: as it was at the last sync, or as a crash kept it.
func (p past) lasts(at int) drum.Block {
	for i := len(p) - 1; i >= 0; i-- {
		c := p[i]
		saved := c.call == "sync" && c.e == api.OK
		for _, k := range c.keep {
			saved = saved || c.call == "crash" && k == at
		}
		if !saved {
			continue
		}
		if b, ok := p[:i].written(at); ok {
			return b
		}
	}
	return drum.Block{}
}

// steps is how many steps were done.
func (p past) steps() int {
	n := 0
	for _, c := range p {
		if (c.call == "write" || c.call == "sync") && c.e == api.OK {
			n++
		}
	}
	return n
}

// power tells whether the power is gone, and the fuse.
func (p past) power() (down bool, fuse int) {
	fuse = -1
	for _, c := range p {
		switch {
		case c.call == "crash":
			down, fuse = false, -1
		case c.e != api.OK && c.e != api.ErrDown || down:
		case c.call == "fuse":
			fuse = c.at
		case fuse == 0:
			down = true
		case fuse > 0:
			fuse--
		}
	}
	return down, fuse
}

// answers is what a write, a sync or a fuse answers behind that past.
func (p past) answers(c done, blocks int) api.Errno {
	down, fuse := p.power()
	switch {
	case down:
		return api.ErrDown
	case c.call == "write" && (c.at < 0 || c.at >= blocks):
		return api.ErrArg
	case c.call != "fuse" && fuse == 0:
		return api.ErrDown
	}
	return api.OK
}

// next does something, whatever it is.
func (p past) next(t *testing.T, r *draw, d *drum.Drum, n int) done {
	t.Helper()
	blocks := d.Blocks()
	c := done{call: []string{"write", "write", "write", "write", "sync", "fuse", "crash"}[r.below(7)]}
	switch c.call {
	case "write":
		c.at, c.b = r.below(blocks+2)-1, mark(n)
		c.e = d.Write(c.at, c.b)
	case "sync":
		c.e = d.Sync()
	case "fuse":
		c.at = r.below(12) - 2
		c.e = d.Fuse(c.at)
	case "crash":
		c.keep = r.some(blocks)
		want(t, "Crash", d.Crash(c.keep...), api.OK)
		return c
	}
	want(t, c.call, c.e, p.answers(c, blocks))
	return c
}

// look holds a device to be as its past tells, by the chapter's words.
func (p past) look(t *testing.T, d *drum.Drum, blocks int) {
	t.Helper()
	down, _ := p.power()
	var loose []int
	for at := range blocks {
		b, ok := p.written(at)
		if ok {
			loose = append(loose, at)
		} else {
			b = p.lasts(at)
		}
		if down {
			wantRefused(t, d, at, api.ErrDown)
		} else {
			wantBlock(t, d, at, b)
		}
	}
	wantGauge(t, d, p.steps(), down, loose...)
}

// P23.1 to P23.4: drawn pasts, held against the chapter's words after each call.
func TestPasts(t *testing.T) {
	r := draw(3)
	for n := range 150 {
		blocks := 1 + n%7
		d := made(t, blocks)
		var p past
		for i := range 80 {
			p = append(p, p.next(t, &r, d, i+1))
			p.look(t, d, blocks)
		}
	}
}

// P23.4: in all short pasts, whatever a crash keeps, what was synced and not written since lasts, and each block is as it lasted, or as it was written last.
func TestShortPasts(t *testing.T) {
	const blocks, length = 2, 5
	for all := range 3 * 3 * 3 * 3 * 3 {
		for fuse := range length + 1 {
			for kept := range 1 << blocks {
				d := made(t, blocks)
				want(t, "Fuse", d.Fuse(fuse), api.OK)
				var lasts, last [blocks]drum.Block
				for i, rest := 0, all; i < length; i, rest = i+1, rest/3 {
					what := rest % 3
					if what < blocks {
						if d.Write(what, mark(i+1)) == api.OK {
							last[what] = mark(i + 1)
						}
					} else if d.Sync() == api.OK {
						lasts = last
					}
				}
				var keep []int
				for at := range blocks {
					if kept>>at&1 != 0 {
						keep, lasts[at] = append(keep, at), last[at]
					}
				}
				wantGauge(t, d, fuse, fuse < length, d.Loose()...)
				want(t, "Crash", d.Crash(keep...), api.OK)
				for at := range blocks {
					wantBlock(t, d, at, lasts[at])
				}
			}
		}
	}
}
