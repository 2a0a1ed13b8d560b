package vault_test

import (
	"bytes"
	"crypto/sha256"
	"fmt"
	"math"
	"testing"

	"zoetrope/api"
	"zoetrope/drum"
	"zoetrope/vault"
)

// P24.1: how many slots a device has.
func TestSlots(t *testing.T) {
	rows := []struct{ blocks, slots int }{
		{0, 0}, {1, 0}, {3, 0}, {4, 1}, {5, 1}, {7, 1}, {8, 2}, {9, 2}, {11, 2}, {12, 3}, {40, 10}, {200, 50},
		{2043, 510}, {2044, 511}, {2047, 511}, {2048, 512}, {2049, 512}, {2052, 512}, {4096, 512}, {8191, 512}, {8192, 512},
		{-1, 0}, {-3, 0}, {-4, 0}, {-5, 0}, {-8, 0}, {-4096, 0}, {math.MinInt, 0}, {math.MinInt + 1, 0},
	}
	for _, row := range rows {
		if got := vault.Slots(row.blocks); got != row.slots {
			t.Errorf("Slots(%d): %d, not %d", row.blocks, got, row.slots)
		}
	}
	for blocks := range api.MaxBlocks + 1 {
		if got := vault.Slots(blocks); got > 512 || got > blocks/4 || got < 512 && 4*got+4 <= blocks {
			t.Errorf("Slots(%d): %d", blocks, got)
		}
	}
}

// P24.1: how many blocks bytes take.
func TestNeed(t *testing.T) {
	rows := []struct{ size, blocks int }{
		{0, 0}, {1, 1}, {2, 1}, {127, 1}, {128, 1}, {129, 2}, {255, 2}, {256, 2}, {257, 3}, {1 << 18, 2048}, {1<<18 + 1, 2049}, {1<<18 - 127, 2048}, {1<<18 - 128, 2047},
		{-1, 0}, {-127, 0}, {-128, 0}, {-129, 0}, {-1 << 32, 0}, {math.MinInt, 0}, {math.MinInt + 1, 0},
		{1 << 32, 1 << 25}, {1<<32 + 1, 1<<25 + 1}, {math.MaxInt, math.MaxInt/128 + 1}, {math.MaxInt - 126, math.MaxInt/128 + 1}, {math.MaxInt - 127, math.MaxInt / 128},
	}
	for _, row := range rows {
		if got := vault.Need(row.size); got != row.blocks {
			t.Errorf("Need(%d): %d, not %d", row.size, got, row.blocks)
		}
	}
	for size := range 3000 {
		if got := vault.Need(size); 128*got < size || 128*got >= size+128 {
			t.Errorf("Need(%d): %d", size, got)
		}
	}
}

// P24.1: a device of any size, of which nothing was written, has an empty vault.
func TestOpenEmpty(t *testing.T) {
	for _, blocks := range []int{1, 2, 3, 4, 5, 8, 9, 100, 2048, 8192} {
		d, v := fresh(t, blocks)
		wantUsed(t, v, 0, 0)
		wantNone(t, v, api.Digest{})
		wantNone(t, v, key(1))
		wantKeys(t, v, vault.Job)
		wantKeys(t, v, vault.Work)
		wantSteps(t, d, 0)
	}
}

// P24.1: a device without slots has no room for anything.
func TestNoSlots(t *testing.T) {
	for _, blocks := range []int{1, 2, 3} {
		d, v := fresh(t, blocks)
		write(t, d, 0, text(1, 128*blocks))
		want(t, "Put", v.Put(vault.Job, key(1), nil), api.ErrFull)
		want(t, "Put", v.Put(vault.Work, key(1), text(1, 1)), api.ErrFull)
		want(t, "Drop", v.Drop(key(1)), api.OK)
		wantNone(t, v, key(1))
		w := opened(t, d)
		wantUsed(t, w, 0, 0)
		if d.Steps() != blocks {
			t.Errorf("%d steps on %d blocks", d.Steps(), blocks)
		}
	}
}

// P24.1: what somebody else laid, as the chapter has it, is a vault: slots in any order, some empty, texts one in the other, at both ends of data, of no bytes and of many, with anything in blocks that no slot names.
func TestOpenLaid(t *testing.T) {
	long, short := text(1, 700), text(2, 1)
	d := laid(t, 41, map[int]drum.Block{
		1: entryOf(vault.Work, key(9), long, 35),
		2: entryOf(vault.Job, api.Digest{}, long[128:300], 36),
		4: entryOf(vault.Work, key(8), nil, 41),
		5: entryOf(vault.Job, key(7), nil, 10),
		6: entryOf(vault.Work, key(300), short, 10),
		8: entryOf(vault.Work, key(5), long, 20),
		9: entryOf(vault.Work, key(6), long, 35),
	}, map[int][]byte{10: short, 20: long, 35: long, 12: text(3, 900)})
	// Behind the short text, and behind what is kept of the long one's blocks, there may be anything.
	write(t, d, 10, append([]byte{short[0]}, text(4, 127)...))
	write(t, d, 40, append(bytes.Clone(long[640:]), text(5, 68)...))
	want(t, "Sync", d.Sync(), api.OK)
	steps, was := d.Steps(), image(t, d)
	v := opened(t, d)
	wantBytes(t, v, key(9), long)
	wantBytes(t, v, api.Digest{}, long[128:300])
	wantBytes(t, v, key(8), nil)
	wantBytes(t, v, key(7), nil)
	wantBytes(t, v, key(300), short)
	wantBytes(t, v, key(5), long)
	wantBytes(t, v, key(6), long)
	wantNone(t, v, key(4))
	wantKeys(t, v, vault.Job, api.Digest{}, key(7))
	wantKeys(t, v, vault.Work, key(5), key(6), key(8), key(9), key(300))
	// 20 to 25, 35 to 40, and 10.
	wantUsed(t, v, 7, 13)
	wantSteps(t, d, steps)
	if !bytes.Equal(image(t, d), was) {
		t.Error("the device is another one")
	}
	// The first slot that has the bytes is where they are found, not the first place.
	want(t, "Put", v.Put(vault.Job, key(1), long), api.OK)
	want(t, "Put", v.Put(vault.Job, key(2), text(6, 200)), api.OK)
	b, _ := d.Read(0)
	if b != entryOf(vault.Job, key(1), long, 35) {
		t.Errorf("the slot 0 is %x", b)
	}
	if b, _ = d.Read(3); b != entryOf(vault.Job, key(2), text(6, 200), 11) {
		t.Errorf("the slot 3 is %x", b)
	}
	wantSteps(t, d, steps+2+5)
	wantUsed(t, v, 9, 15)
}

// P24.1: what is loose on a device is read as it is, and stays loose; a fuse isn't touched.
func TestOpenLoose(t *testing.T) {
	d := made(t, 8)
	write(t, d, 2, []byte("zoe"))
	want(t, "Write", d.Write(0, entryOf(vault.Work, key(1), []byte("zoe"), 2)), api.OK)
	want(t, "Fuse", d.Fuse(0), api.OK)
	v := opened(t, d)
	wantBytes(t, v, key(1), []byte("zoe"))
	wantUsed(t, v, 1, 1)
	if d.Steps() != 2 || len(d.Loose()) != 2 || d.Down() {
		t.Errorf("%d steps, %v loose, down %v", d.Steps(), d.Loose(), d.Down())
	}
}

// P24.1: the errors of Open that come from the device, ahead of ErrBroken.
func TestOpenErrors(t *testing.T) {
	wantRefused(t, "nil", nil, api.ErrNil)
	for _, b := range []drum.Block{{}, {9}, entryOf(vault.Work, key(1), nil, 2)} {
		d := laid(t, 8, map[int]drum.Block{1: b}, nil)
		want(t, "Fuse", d.Fuse(0), api.OK)
		want(t, "Sync", d.Sync(), api.ErrDown)
		wantRefused(t, "down", d, api.ErrDown)
		want(t, "Crash", d.Crash(), api.OK)
	}
}

// wantBroken holds a device of 41 blocks with that slot to be broken, wherever it stands.
func wantBroken(t *testing.T, what string, b drum.Block, texts map[int][]byte) {
	t.Helper()
	for _, at := range []int{0, 1, 9} {
		wantRefused(t, fmt.Sprint(what, " in the slot ", at), laid(t, 41, map[int]drum.Block{at: b}, texts), api.ErrBroken)
	}
	// No slot: nobody looks at it.
	opened(t, laid(t, 41, map[int]drum.Block{10: b, 40: b}, nil))
}

// P24.1: a block of the slots that is neither empty nor a slot.
func TestBrokenForm(t *testing.T) {
	p := text(1, 200)
	texts := map[int][]byte{20: p}
	whole := entryOf(vault.Work, key(1), p, 20)
	opened(t, laid(t, 41, map[int]drum.Block{9: whole}, texts))
	for at := range 55 {
		for _, bit := range []byte{1, 128} {
			b := whole
			b[73+at] = bit
			wantBroken(t, fmt.Sprint("byte ", 73+at), b, texts)
		}
	}
	for kind := range 256 {
		b := whole
		b[0] = byte(kind)
		if kind == vault.Job || kind == vault.Work {
			opened(t, laid(t, 41, map[int]drum.Block{9: b}, texts))
			continue
		}
		wantBroken(t, fmt.Sprint("kind ", kind), b, texts)
	}
	for at := range api.BlockSize {
		var b drum.Block
		b[at] = 1
		wantBroken(t, fmt.Sprint("byte ", at, " alone"), b, nil)
	}
	// A kind alone lacks its sum, which is that of nothing.
	for _, from := range []int{0, 10, 20, 41} {
		wantBroken(t, fmt.Sprint("a kind alone, from ", from), entry(vault.Job, api.Digest{}, api.Digest{}, 0, from), nil)
	}
}

// P24.1: bytes that begin ahead of data, or go beyond the device's end; where there are none, too.
func TestBrokenPlace(t *testing.T) {
	const most = 1<<32 - 1
	rows := []struct {
		size, from int
		ok         bool
	}{
		{0, 0, false}, {0, 8, false}, {0, 9, false}, {0, 10, true}, {0, 11, true}, {0, 40, true}, {0, 41, true}, {0, 42, false}, {0, most, false}, {0, 1 << 31, false},
		{1, 0, false}, {1, 9, false}, {1, 10, true}, {1, 39, true}, {1, 40, true}, {1, 41, false}, {1, most, false},
		{128, 9, false}, {128, 10, true}, {128, 40, true}, {128, 41, false},
		{129, 9, false}, {129, 10, true}, {129, 39, true}, {129, 40, false}, {129, 41, false}, {256, 39, true}, {257, 39, false}, {257, 38, true},
		{31 * 128, 9, false}, {31 * 128, 10, true}, {31 * 128, 11, false}, {31*128 + 1, 10, false}, {31*128 + 1, 9, false}, {32 * 128, 9, false}, {32 * 128, 10, false},
		{1 << 18, 10, false}, {1<<18 + 1, 10, false}, {most, 10, false}, {most, most, false}, {most, 0, false}, {1 << 31, 1 << 31, false}, {1, 1<<24 + 20, false}, {1, 1<<16 + 20, false}, {1, 1<<8 + 20, false},
	}
	for _, row := range rows {
		p := text(3, min(row.size, 1<<18+1))
		var texts map[int][]byte
		if row.from <= 41 {
			texts = map[int][]byte{row.from: p}
		}
		b := entry(vault.Work, key(2), sha256.Sum256(p), row.size, row.from)
		if !row.ok {
			wantBroken(t, fmt.Sprint(row), b, texts)
			continue
		}
		for _, at := range []int{0, 9} {
			v := opened(t, laid(t, 41, map[int]drum.Block{at: b}, texts))
			wantBytes(t, v, key(2), p)
			wantUsed(t, v, 1, vault.Need(row.size))
		}
	}
}

// P24.1: a slot has at most 2^18 bytes, whatever room there is.
func TestBrokenSize(t *testing.T) {
	p := text(4, 1<<18+1)
	for _, from := range []int{512, 1000, 8192 - 2048} {
		d := laid(t, 8192, map[int]drum.Block{7: entryOf(vault.Job, key(3), p[:1<<18], from)}, map[int][]byte{from: p})
		wantBytes(t, opened(t, d), key(3), p[:1<<18])
	}
	for _, from := range []int{512, 1000, 8192 - 2049} {
		d := laid(t, 8192, map[int]drum.Block{7: entryOf(vault.Job, key(3), p, from)}, map[int][]byte{from: p})
		wantRefused(t, "2^18 + 1 bytes", d, api.ErrBroken)
	}
	// The greatest device has 512 slots; what stands behind them is data.
	d := laid(t, 8192, map[int]drum.Block{511: entryOf(vault.Job, key(3), nil, 512), 512: {1, 2, 3}}, nil)
	wantBytes(t, opened(t, d), key(3), nil)
	d = laid(t, 8192, map[int]drum.Block{511: entryOf(vault.Job, key(3), nil, 511)}, nil)
	wantRefused(t, "ahead of data", d, api.ErrBroken)
}

// P24.1: a key that a slot ahead has, of whatever kind, with the same bytes or other ones.
func TestBrokenTwice(t *testing.T) {
	p, q := text(5, 10), text(6, 10)
	texts := map[int][]byte{20: p, 30: q, 31: p}
	for _, k := range []api.Digest{{}, key(1), {31: 255}} {
		first := entryOf(vault.Work, k, p, 20)
		for _, second := range []drum.Block{first, entryOf(vault.Job, k, p, 20), entryOf(vault.Work, k, q, 30), entryOf(vault.Work, k, p, 31), entryOf(vault.Job, k, nil, 41)} {
			for _, places := range [][2]int{{0, 1}, {0, 9}, {4, 7}} {
				d := laid(t, 41, map[int]drum.Block{places[0]: first, places[1]: second}, texts)
				wantRefused(t, "a key twice", d, api.ErrBroken)
				d = laid(t, 41, map[int]drum.Block{places[0]: second, places[1]: first}, texts)
				wantRefused(t, "a key twice", d, api.ErrBroken)
			}
		}
	}
	// Keys that differ in one bit are two.
	for bit := range 256 {
		k := key(1)
		k[bit/8] ^= 1 << (bit % 8)
		v := opened(t, laid(t, 41, map[int]drum.Block{0: entryOf(vault.Work, key(1), p, 20), 5: entryOf(vault.Work, k, q, 30)}, texts))
		wantBytes(t, v, key(1), p)
		wantBytes(t, v, k, q)
	}
}

// P24.1: bytes, or a sum, of which one bit is another one.
func TestBrokenSum(t *testing.T) {
	p := text(7, 300)
	for bit := range 256 {
		b := entryOf(vault.Work, key(1), p, 20)
		b[33+bit/8] ^= 1 << (bit % 8)
		wantBroken(t, fmt.Sprint("the sum's bit ", bit), b, map[int][]byte{20: p})
	}
	b := entryOf(vault.Work, key(1), p, 20)
	for at := range p {
		q := bytes.Clone(p)
		q[at] ^= 1 << (at % 8)
		d := laid(t, 41, map[int]drum.Block{3: b}, map[int][]byte{20: q})
		wantRefused(t, fmt.Sprint("the byte ", at), d, api.ErrBroken)
	}
	for _, size := range []int{0, 1, 299, 301, 384, 385} {
		wantBroken(t, fmt.Sprint(size, " bytes"), entry(vault.Work, key(1), sha256.Sum256(p), size, 20), map[int][]byte{20: p})
	}
	for _, from := range []int{19, 21} {
		wantBroken(t, fmt.Sprint("from ", from), entryOf(vault.Work, key(1), p, from), map[int][]byte{20: p})
	}
	wantBroken(t, "of nothing", entry(vault.Work, key(1), sha256.Sum256([]byte{0}), 0, 20), nil)
	// One wrong slot behind many right ones.
	slots := map[int]drum.Block{9: entry(vault.Job, key(99), sha256.Sum256(p[:1]), 2, 20)}
	for at := range 9 {
		slots[at] = entryOf(vault.Work, key(at), p, 20)
	}
	wantRefused(t, "the last slot", laid(t, 41, slots, map[int][]byte{20: p}), api.ErrBroken)
}

// P24.1: the slots are read by Open alone: what somebody else writes into them isn't seen behind it; bytes are read by each Get.
func TestOpenAlone(t *testing.T) {
	d, v := fresh(t, 8)
	p := text(8, 129)
	want(t, "Put", v.Put(vault.Work, key(1), p), api.OK)
	for _, b := range []drum.Block{{}, {5}, entryOf(vault.Job, key(2), nil, 3)} {
		want(t, "Write", d.Write(0, b), api.OK)
		wantBytes(t, v, key(1), p)
		wantNone(t, v, key(2))
		wantKeys(t, v, vault.Work, key(1))
		wantUsed(t, v, 1, 2)
		want(t, "Put", v.Put(vault.Work, key(1), p), api.OK)
		want(t, "Put", v.Put(vault.Work, key(1), nil), api.ErrTwice)
	}
	wantNone(t, opened(t, d), key(1))
	want(t, "Write", d.Write(3, drum.Block{p[128] + 1}), api.OK)
	wantNoBytes(t, v, key(1), api.ErrSum)
	if !v.Has(key(1)) {
		t.Error("what has another sum isn't there")
	}
	want(t, "Write", d.Write(3, drum.Block{p[128], 77}), api.OK)
	wantBytes(t, v, key(1), p)
}
