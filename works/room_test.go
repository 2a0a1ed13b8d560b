package works_test

import (
	"fmt"
	"math"
	"testing"

	"zoetrope/api"
	"zoetrope/drum"
	"zoetrope/film"
	"zoetrope/job"
	"zoetrope/scene"
	"zoetrope/stamp"
	"zoetrope/track"
	"zoetrope/vault"
	"zoetrope/works"
)

// sizeOf is how many bytes a work of a size that may be has, by the chapters' words.
func sizeOf(kind, width, height int) int {
	n := width * height
	return [4]int{4 + 54*n, 4 + 15*n, 4 + 15*n, len(fmt.Sprintf("P6\n%d %d\n255\n", width, height)) + 3*n}[kind]
}

// P27.2: all kinds of all sizes that may be.
func TestSizes(t *testing.T) {
	for width := 1; width <= api.MaxSide; width++ {
		for height := 1; height <= api.MaxSide; height++ {
			for kind := range stamp.Kinds {
				if got, want := works.Size(kind, film.Size{Width: width, Height: height}), sizeOf(kind, width, height); got != want {
					t.Errorf("the kind %d, %d by %d: %d, not %d", kind, width, height, got, want)
				}
			}
		}
	}
	if got := works.Size(stamp.Trace, film.Size{Width: 64, Height: 64}); got != 221188 || got > api.MaxBlob {
		t.Errorf("the greatest trace has %d bytes", got)
	}
}

// P27.2: kinds that there aren't, sizes that may not be.
func TestNoSizes(t *testing.T) {
	sides := []int{math.MinInt, math.MinInt + 1, -1 << 32, -64, -1, 0, 1, 2, 64, 65, 1 << 16, 1 << 31, 1 << 32, 1<<32 + 1, math.MaxInt}
	for _, width := range sides {
		for _, height := range sides {
			s := film.Size{Width: width, Height: height}
			for _, kind := range append([]int{4, 5, 8}, far...) {
				if got := works.Size(kind, s); got != 0 {
					t.Errorf("the kind %d, %v: %d", kind, s, got)
				}
			}
			for kind := range stamp.Kinds {
				if got := works.Size(kind, s); (got == 0) == s.Right() {
					t.Errorf("the kind %d, %v: %d", kind, s, got)
				}
			}
		}
	}
}

// P27.3: each work of all has its size.
func TestSizesOfAll(t *testing.T) {
	for _, s := range append(drawn(9), room(), plain(64, 64, 1), plain(64, 1, 2), plain(1, 64, 2), plain(9, 10, 1), plain(10, 9, 1)) {
		for i, b := range all(t, s) {
			if got := works.Size(i%4, size(s)); got != len(b) || got != sizeOf(i%4, s.Width, s.Height) {
				t.Errorf("%v: the work %d has %d bytes, not %d", s, i, len(b), got)
			}
		}
	}
}

// plain is a scene of a size, without shapes.
func plain(width, height, frames int) scene.Scene {
	return scene.Scene{Header: scene.Header{Width: width, Height: height, Samples: 1, Depth: 1, Frames: frames, Sky: h(one, one/2, 0)}, Lens: scene.Lens{Wide: one}, Tracks: []track.Track{track.Still(v(0, 0, 0))}}
}

// boundOf is how many slots and blocks a scene takes, by the chapters' words.
func boundOf(t *testing.T, s scene.Scene) (many, blocks int) {
	t.Helper()
	b, e := job.Encode(s)
	if e != api.OK {
		t.Fatalf("%v: %d", s, e)
	}
	need := func(size int) int { return (size + 127) / 128 }
	blocks = need(len(b))
	for range s.Frames {
		for kind := range 4 {
			blocks += need(sizeOf(kind, s.Width, s.Height))
		}
	}
	return 1 + 4*s.Frames, blocks
}

// sizes are scenes of many sizes, and numbers of frames, and of jobs of many lengths.
func sizes() []scene.Scene {
	l := []scene.Scene{room(), plain(1, 1, 1), plain(64, 64, 32), plain(64, 64, 1), plain(2, 1, 32)}
	for n := range 30 {
		s := plain(1+7*n%64, 1+5*n%64, 1+n)
		for range n {
			s.Paints = append(s.Paints, scene.Paint{})
		}
		l = append(l, s)
	}
	return l
}

// P27.2: how many slots and blocks scenes take: those of some reckoned by hand.
func TestBound(t *testing.T) {
	for _, s := range append(sizes(), drawn(10)...) {
		many, blocks := works.Bound(s)
		if m, b := boundOf(t, s); many != m || blocks != b {
			t.Errorf("%v: %d, %d, not %d, %d", s, many, blocks, m, b)
		}
	}
	rows := []struct{ width, height, frames, many, blocks int }{
		// The job has 77 bytes; a trace, a warp, a lace, a plate have 58, 19, 19, 14; of 64 by 64 pixels 221188, 61444, 61444, 12301; of 2 by 1 112, 34, 34, 17; of 3 by 1 166, 49, 49, 20.
		{1, 1, 1, 5, 5}, {64, 64, 1, 5, 2789}, {64, 64, 32, 129, 89217}, {2, 1, 32, 129, 129}, {3, 1, 2, 9, 11},
	}
	for _, x := range rows {
		if many, blocks := works.Bound(plain(x.width, x.height, x.frames)); many != x.many || blocks != x.blocks {
			t.Errorf("%d by %d, %d frames: %d, %d, not %d, %d", x.width, x.height, x.frames, many, blocks, x.many, x.blocks)
		}
	}
}

// P27.2: devices of all sizes, and of some that there aren't.
func TestFits(t *testing.T) {
	for _, s := range sizes() {
		many, need := boundOf(t, s)
		for blocks := -9; blocks <= api.MaxBlocks; blocks++ {
			slots := max(min(blocks/4, 512), 0)
			if got, want := works.Fits(s, blocks), slots >= many && blocks-slots >= need; got != want {
				t.Fatalf("%v, %d blocks: %v", s, blocks, got)
			}
		}
		for _, blocks := range []int{math.MinInt, math.MinInt + 1, -1 << 32, -1 << 31, -8192} {
			if works.Fits(s, blocks) {
				t.Errorf("%v fits %d blocks", s, blocks)
			}
		}
		for _, blocks := range []int{need + 512, need + 513, 1 << 20, 1 << 32, math.MaxInt - 1, math.MaxInt} {
			if blocks >= 2048 && !works.Fits(s, blocks) {
				t.Errorf("%v doesn't fit %d blocks", s, blocks)
			}
		}
	}
}

// least is the least device that a scene fits, if there is one.
func least(s scene.Scene) int {
	for blocks := range api.MaxBlocks + 1 {
		if works.Fits(s, blocks) {
			return blocks
		}
	}
	return 0
}

// keep puts a scene's job and all its works into the vault of a device of so many blocks, as long as there is room; all of them were kept, if it is OK.
func keep(t *testing.T, s scene.Scene, blocks int) (*vault.Vault, api.Errno) {
	t.Helper()
	d, e := drum.New(blocks)
	if e != api.OK {
		t.Fatalf("%d blocks: %d", blocks, e)
	}
	safe, e := vault.Open(d)
	if e != api.OK {
		t.Fatalf("%d blocks: %d", blocks, e)
	}
	b, _ := job.Encode(s)
	if e = safe.Put(vault.Job, stamp.Job(b), b); e != api.OK {
		return safe, e
	}
	l := all(t, s)
	for i, w := range stamp.Works(stamp.Job(b), s.Frames) {
		if e = safe.Put(vault.Work, w.Key, l[i]); e != api.OK {
			return safe, e
		}
	}
	return safe, api.OK
}

// P27.2: on a device that a scene fits there is room for its job and all its works; they take what Bound tells, or less, where works are alike; without one of the slots, or of the blocks, there isn't room, if they aren't.
func TestRoomOnDevices(t *testing.T) {
	just := 0
	for _, s := range append(drawn(11), room(), plain(1, 1, 1), plain(8, 8, 3)) {
		blocks := least(s)
		safe, e := keep(t, s, blocks)
		many, need := works.Bound(s)
		taken, used := safe.Used()
		if e != api.OK || taken != many || used > need {
			t.Fatalf("%v, %d blocks: %d, %d, not %d, %d; %d", s, blocks, taken, used, many, need, e)
		}
		if used < need {
			continue
		}
		just++
		if _, e = keep(t, s, blocks-1); e != api.ErrFull {
			t.Errorf("%v, %d blocks: %d", s, blocks-1, e)
		}
	}
	if just < 10 {
		t.Errorf("%d scenes take just what they are bound to", just)
	}
}
