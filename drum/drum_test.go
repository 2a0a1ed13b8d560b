package drum_test

import (
	"math"
	"slices"
	"testing"

	"zoetrope/api"
	"zoetrope/drum"
)

// The calls, with the signatures that the chapter tells.
var (
	_ func(blocks int) (*drum.Drum, api.Errno)           = drum.New
	_ func(d *drum.Drum) int                             = (*drum.Drum).Blocks
	_ func(d *drum.Drum, at int, b drum.Block) api.Errno = (*drum.Drum).Write
	_ func(d *drum.Drum) api.Errno                       = (*drum.Drum).Sync
	_ func(d *drum.Drum, at int) (drum.Block, api.Errno) = (*drum.Drum).Read
	_ func(d *drum.Drum) []int                           = (*drum.Drum).Loose
	_ func(d *drum.Drum) int                             = (*drum.Drum).Steps
	_ func(d *drum.Drum) bool                            = (*drum.Drum).Down
	_ func(d *drum.Drum, steps int) api.Errno            = (*drum.Drum).Fuse
	_ func(d *drum.Drum, keep ...int) api.Errno          = (*drum.Drum).Crash
	_ [api.BlockSize]byte                                = drum.Block{}
)

// draw is a list of numbers without any order in them, the same ones in every run.
type draw uint64

// below is the next of them, from 0 on, below n.
func (d *draw) below(n int) int {
	*d = *d*6364136223846793005 + 1442695040888963407
	return int(uint64(*d) >> 32 % uint64(n))
}

// some are some of the numbers below n, in any order, some of them twice.
func (d *draw) some(n int) []int {
	var l []int
	for range d.below(n + 2) {
		l = append(l, d.below(n))
	}
	return l
}

// shuffled are the numbers below n, in any order.
func (d *draw) shuffled(n int) []int {
	l := make([]int, n)
	for i := range l {
		j := d.below(i + 1)
		l[i], l[j] = l[j], i
	}
	return l
}

// mark is a block that tells a number from others, at its ends and between.
func mark(n int) drum.Block {
	var b drum.Block
	b[0], b[1], b[63], b[127] = byte(n), byte(n>>8), byte(n>>16), byte(n)+1
	return b
}

// made is a device of so many blocks.
func made(t *testing.T, blocks int) *drum.Drum {
	t.Helper()
	d, e := drum.New(blocks)
	if e != api.OK || d == nil {
		t.Fatalf("New(%d): %d", blocks, e)
	}
	return d
}

// want holds a call's error to be that.
func want(t *testing.T, what string, got, e api.Errno) {
	t.Helper()
	if got != e {
		t.Fatalf("%s: %d, not %d", what, got, e)
	}
}

// put writes a block, which must be done.
func put(t *testing.T, d *drum.Drum, at int, b drum.Block) {
	t.Helper()
	want(t, "Write", d.Write(at, b), api.OK)
}

// wantBlock holds a block to be read as that.
func wantBlock(t *testing.T, d *drum.Drum, at int, b drum.Block) {
	t.Helper()
	if got, e := d.Read(at); got != b || e != api.OK {
		t.Fatalf("block %d: %v, %d, not %v", at, got, e, b)
	}
}

// wantRefused holds a block not to be read.
func wantRefused(t *testing.T, d *drum.Drum, at int, e api.Errno) {
	t.Helper()
	if got, f := d.Read(at); got != (drum.Block{}) || f != e {
		t.Fatalf("block %d: %v, %d, not %d", at, got, f, e)
	}
}

// wantGauge holds what a device tells of itself to be that.
func wantGauge(t *testing.T, d *drum.Drum, steps int, down bool, loose ...int) {
	t.Helper()
	if d.Steps() != steps || d.Down() != down || !slices.Equal(d.Loose(), loose) {
		t.Fatalf("%d steps, down %v, loose %v, not %d, %v, %v", d.Steps(), d.Down(), d.Loose(), steps, down, loose)
	}
}

// far are numbers of blocks that no device of so many has.
func far(blocks int) []int {
	return []int{-1, -2, blocks, blocks + 1, -blocks, 1 << 32, 1<<32 + 1, -1 << 32, math.MaxInt, math.MinInt, math.MinInt + 1}
}

// P23.1: a device has from 1 to 2^13 blocks.
func TestSizes(t *testing.T) {
	for _, n := range []int{1, 2, 3, 4, 127, 128, 129, 512, 8191, 8192} {
		d := made(t, n)
		if d.Blocks() != n {
			t.Errorf("%d blocks, not %d", d.Blocks(), n)
		}
		wantGauge(t, d, 0, false)
		for _, at := range []int{0, n / 2, n - 1} {
			wantBlock(t, d, at, drum.Block{})
		}
		wantRefused(t, d, n, api.ErrArg)
	}
	for _, n := range []int{0, -1, -128, 8193, 8194, 1 << 16, 1 << 32, 1<<32 + 1, math.MaxInt, math.MinInt, math.MinInt + 1} {
		if d, e := drum.New(n); d != nil || e != api.ErrArg {
			t.Errorf("New(%d): %v, %d", n, d, e)
		}
	}
}

// P23.1, P23.2, P23.3: the steps that the document names in its examples, one by one.
func TestBySight(t *testing.T) {
	a, b := drum.Block{'a', 'a', 'a'}, drum.Block{'b', 'b'}
	d := made(t, 2)
	put(t, d, 0, a)
	put(t, d, 1, b)
	wantGauge(t, d, 2, false, 0, 1)
	want(t, "Crash", d.Crash(1), api.OK)
	wantGauge(t, d, 2, false)
	wantBlock(t, d, 0, drum.Block{})
	wantBlock(t, d, 1, b)

	// A written block that isn't synced is lost in a crash that doesn't keep it.
	put(t, d, 0, a)
	want(t, "Crash", d.Crash(), api.OK)
	wantBlock(t, d, 0, drum.Block{})
	wantBlock(t, d, 1, b)
}

// P23.1: a loose block is read as it was written last, by all of its bytes.
func TestWrittenLast(t *testing.T) {
	d := made(t, 3)
	for n := range 300 {
		b := mark(n)
		b[n%api.BlockSize] ^= 0x5a
		put(t, d, 1, b)
		wantBlock(t, d, 1, b)
		wantBlock(t, d, 0, drum.Block{})
		wantBlock(t, d, 2, drum.Block{})
		wantGauge(t, d, n+1, false, 1)
	}
	for i := range api.BlockSize {
		var b drum.Block
		b[i] = byte(i + 1)
		put(t, d, 0, b)
		wantBlock(t, d, 0, b)
	}
}

// P23.1, P23.4: a block that is written over behind a sync is loose again, and is as it was at the sync, if it is lost.
func TestSync(t *testing.T) {
	d := made(t, 4)
	put(t, d, 2, mark(1))
	want(t, "Sync", d.Sync(), api.OK)
	wantGauge(t, d, 2, false)
	wantBlock(t, d, 2, mark(1))
	put(t, d, 2, mark(2))
	put(t, d, 2, mark(3))
	wantGauge(t, d, 4, false, 2)
	wantBlock(t, d, 2, mark(3))
	want(t, "Crash", d.Crash(), api.OK)
	wantBlock(t, d, 2, mark(1))
	wantGauge(t, d, 4, false)
	put(t, d, 2, mark(4))
	put(t, d, 2, mark(5))
	want(t, "Crash", d.Crash(2), api.OK)
	// What was written ahead of the last time is gone for good.
	wantBlock(t, d, 2, mark(5))
	want(t, "Crash", d.Crash(), api.OK)
	wantBlock(t, d, 2, mark(5))
}

// P23.1, P23.2: a block is loose, too, if it was written as it lasted; a sync is a step, too, if none is loose.
func TestNothingNew(t *testing.T) {
	d := made(t, 2)
	put(t, d, 1, drum.Block{})
	wantGauge(t, d, 1, false, 1)
	want(t, "Sync", d.Sync(), api.OK)
	wantGauge(t, d, 2, false)
	for i := range 5 {
		want(t, "Sync", d.Sync(), api.OK)
		wantGauge(t, d, 3+i, false)
	}
	put(t, d, 1, mark(1))
	want(t, "Sync", d.Sync(), api.OK)
	put(t, d, 1, mark(1))
	wantGauge(t, d, 10, false, 1)
	put(t, d, 0, drum.Block{})
	wantGauge(t, d, 11, false, 0, 1)
}

// P23.2: loose blocks are told rising, in whatever order they were written, on the greatest device, too.
func TestLooseRising(t *testing.T) {
	r := draw(1)
	for _, n := range []int{2, 9, 100, 8192} {
		d := made(t, n)
		seen := map[int]int{}
		for i, at := range r.shuffled(n) {
			if r.below(5) == 0 {
				continue
			}
			put(t, d, at, mark(i))
			seen[at] = i
		}
		var loose []int
		for at := range n {
			if i, ok := seen[at]; ok {
				loose = append(loose, at)
				wantBlock(t, d, at, mark(i))
				continue
			}
			wantBlock(t, d, at, drum.Block{})
		}
		wantGauge(t, d, len(loose), false, loose...)
		want(t, "Sync", d.Sync(), api.OK)
		wantGauge(t, d, len(loose)+1, false)
		want(t, "Crash", d.Crash(), api.OK)
		for at, i := range seen {
			wantBlock(t, d, at, mark(i))
		}
	}
}

// P23.1: blocks that a device hasn't; such a call is no step, and changes nothing.
func TestNoSuchBlock(t *testing.T) {
	for _, n := range []int{1, 2, 200, 8192} {
		d := made(t, n)
		put(t, d, 0, mark(7))
		want(t, "Fuse", d.Fuse(1), api.OK)
		for _, at := range far(n) {
			want(t, "Write", d.Write(at, mark(1)), api.ErrArg)
			wantRefused(t, d, at, api.ErrArg)
		}
		wantGauge(t, d, 1, false, 0)
		wantBlock(t, d, 0, mark(7))
		put(t, d, n-1, mark(8))
		want(t, "Sync", d.Sync(), api.ErrDown)
	}
}

// P23.3: what a crash keeps is named in any order, also more than once; other names, of blocks that aren't loose or that the device hasn't, are nothing to it.
func TestCrashNames(t *testing.T) {
	for _, keep := range [][]int{{1, 3}, {3, 1}, {3, 3, 1, 1, 3}, {0, 1, 2, 3, 4}, {4, 3, 2, 1, 0}, append(far(5), 3, 1), append([]int{1, 3}, far(5)...)} {
		d := made(t, 5)
		put(t, d, 0, mark(10))
		put(t, d, 2, mark(12))
		want(t, "Sync", d.Sync(), api.OK)
		put(t, d, 1, mark(21))
		put(t, d, 3, mark(23))
		want(t, "Crash", d.Crash(keep...), api.OK)
		wantGauge(t, d, 5, false)
		for at, b := range []drum.Block{mark(10), mark(21), mark(12), mark(23), {}} {
			wantBlock(t, d, at, b)
		}
	}
	for _, keep := range [][]int{nil, {}, {0}, {2, 4}, far(5)} {
		d := made(t, 5)
		put(t, d, 1, mark(21))
		put(t, d, 3, mark(23))
		want(t, "Crash", d.Crash(keep...), api.OK)
		wantGauge(t, d, 2, false)
		for at := range 5 {
			wantBlock(t, d, at, drum.Block{})
		}
	}
}

// P23.4: all blocks of a small device, each one never written, lasting, loose, or loose over what lasts, and all that may be kept of them.
func TestAllKept(t *testing.T) {
	const blocks = 3
	for kinds := range 4 * 4 * 4 {
		for kept := range 1 << blocks {
			d := made(t, blocks)
			var lasts, loose [blocks]bool
			for at := range blocks {
				kind := kinds >> (2 * at) & 3
				lasts[at], loose[at] = kind&1 != 0, kind&2 != 0
				if lasts[at] {
					put(t, d, at, mark(100+at))
				}
			}
			want(t, "Sync", d.Sync(), api.OK)
			var keep []int
			for at := range blocks {
				if loose[at] {
					put(t, d, at, mark(200+at))
				}
				if kept>>at&1 != 0 {
					keep = append(keep, at)
				}
			}
			want(t, "Crash", d.Crash(keep...), api.OK)
			for at := range blocks {
				b := drum.Block{}
				if lasts[at] {
					b = mark(100 + at)
				}
				if loose[at] && kept>>at&1 != 0 {
					b = mark(200 + at)
				}
				wantBlock(t, d, at, b)
			}
			if len(d.Loose()) != 0 {
				t.Fatalf("loose behind a crash: %v", d.Loose())
			}
		}
	}
}

// R1, P23.2: a nil device.
func TestNil(t *testing.T) {
	var d *drum.Drum
	for _, at := range append(far(1), 0) {
		want(t, "Write", d.Write(at, mark(1)), api.ErrNil)
		wantRefused(t, d, at, api.ErrNil)
		want(t, "Fuse", d.Fuse(at), api.ErrNil)
		want(t, "Crash", d.Crash(at), api.ErrNil)
	}
	want(t, "Sync", d.Sync(), api.ErrNil)
	want(t, "Crash", d.Crash(), api.ErrNil)
	wantGauge(t, d, 0, false)
	if d.Blocks() != 0 {
		t.Errorf("%d blocks", d.Blocks())
	}
}

// R1: of a device that New didn't make nothing is promised, but its calls end.
func TestNotMade(t *testing.T) {
	for range 3 {
		var d drum.Drum
		p := new(drum.Drum)
		*p = *made(t, 3)
		for _, x := range []*drum.Drum{&d, p} {
			for _, at := range append(far(1), 0, 1) {
				x.Write(at, mark(1))
				x.Read(at)
				x.Fuse(at)
				x.Sync()
				x.Loose()
				x.Crash(at)
				x.Crash()
				x.Fuse(-1)
				x.Sync()
			}
			x.Blocks()
			x.Steps()
			x.Down()
		}
	}
}

// R3: what is named stays as it is; what is told is new memory.
func TestMemory(t *testing.T) {
	d := made(t, 9)
	for at := range 6 {
		put(t, d, at, mark(at))
	}
	a, b := d.Loose(), d.Loose()
	for i := range a[:cap(a)] {
		a[:cap(a)][i] = 77
	}
	if !slices.Equal(b, []int{0, 1, 2, 3, 4, 5}) || !slices.Equal(d.Loose(), b) {
		t.Errorf("loose are now %v, %v", b, d.Loose())
	}
	room := []int{5, 3, 3, 8, -1, 4}
	want(t, "Crash", d.Crash(room[:3]...), api.OK)
	if !slices.Equal(room, []int{5, 3, 3, 8, -1, 4}) {
		t.Errorf("the names are now %v", room)
	}
	clear(room)
	wantBlock(t, d, 4, drum.Block{})
	wantBlock(t, d, 5, mark(5))
	if !slices.Equal(b, []int{0, 1, 2, 3, 4, 5}) {
		t.Errorf("what was loose is now %v", b)
	}
	x, _ := d.Read(5)
	x[0]++
	wantBlock(t, d, 5, mark(5))
	y := mark(9)
	put(t, d, 5, y)
	y[0]++
	wantBlock(t, d, 5, mark(9))
}

// R5: devices are nothing to each other.
func TestApart(t *testing.T) {
	a, b := made(t, 4), made(t, 4)
	put(t, a, 1, mark(1))
	put(t, b, 1, mark(2))
	want(t, "Fuse", a.Fuse(0), api.OK)
	want(t, "Sync", a.Sync(), api.ErrDown)
	want(t, "Sync", b.Sync(), api.OK)
	wantGauge(t, a, 1, true, 1)
	wantGauge(t, b, 2, false)
	want(t, "Crash", a.Crash(), api.OK)
	wantBlock(t, a, 1, drum.Block{})
	wantBlock(t, b, 1, mark(2))
}
