package vault_test

import (
	"bytes"
	"encoding/hex"
	"slices"
	"testing"

	"zoetrope/api"
	"zoetrope/drum"
	"zoetrope/vault"
)

// P24.1, P24.2: the bytes of a device, as the chapter has them, one by one.
func TestBySight(t *testing.T) {
	d, v := fresh(t, 8)
	want(t, "Put", v.Put(vault.Work, api.Digest{7, 31: 8}, []byte("abc")), api.OK)
	const slot = "02" + "0700000000000000000000000000000000000000000000000000000000000008" +
		"ba7816bf8f01cfea414140de5dae2223b00361a396177a9cb410ff61f20015ad" + "03000000" + "02000000"
	wantBlock(t, d, 0, slot)
	wantBlock(t, d, 1, "")
	wantBlock(t, d, 2, "616263")
	wantBlock(t, d, 3, "")
	wantSteps(t, d, 4)
	want(t, "Put", v.Put(vault.Job, api.Digest{}, nil), api.OK)
	const nothing = "01" + "0000000000000000000000000000000000000000000000000000000000000000" +
		"e3b0c44298fc1c149afbf4c8996fb92427ae41e4649b934ca495991b7852b855" + "00000000" + "02000000"
	wantBlock(t, d, 1, nothing)
	wantUsed(t, v, 2, 1)
	want(t, "Drop", v.Drop(api.Digest{7, 31: 8}), api.OK)
	wantBlock(t, d, 0, "")
	wantBlock(t, d, 1, nothing)
	wantBlock(t, d, 2, "616263")
	wantUsed(t, v, 1, 0)
}

// wantBlock holds a block to begin with these digits, and to go on with zeros.
func wantBlock(t *testing.T, d *drum.Drum, at int, digits string) {
	t.Helper()
	p, err := hex.DecodeString(digits)
	if err != nil {
		t.Fatal(err)
	}
	b, e := d.Read(at)
	if e != api.OK || !bytes.Equal(b[:len(p)], p) || len(bytes.Trim(b[len(p):], "\x00")) != 0 {
		t.Fatalf("block %d: %x, %d, not %s", at, b, e, digits)
	}
}

// P24.2, P24.3: the document's examples.
func TestExamples(t *testing.T) {
	d, v := fresh(t, 40)
	p := text(1, 129)
	want(t, "Put", v.Put(vault.Work, key(1), p), api.OK)
	want(t, "Put", v.Put(vault.Job, key(2), p), api.OK)
	wantUsed(t, v, 2, 2)
	wantSteps(t, d, 2+1+2+2)
	want(t, "Drop", v.Drop(key(1)), api.OK)
	wantUsed(t, v, 1, 2)
	wantBytes(t, v, key(2), p)
	want(t, "Drop", v.Drop(key(2)), api.OK)
	wantUsed(t, v, 0, 0)
}

// P24.2: how many steps each Put takes: one for each block, one behind them, the slot, one behind it.
func TestPutSteps(t *testing.T) {
	steps := 0
	d, v := fresh(t, 400)
	for n, size := range []int{0, 1, 127, 128, 129, 256, 257, 1000, 1024} {
		p := text(n, size)
		want(t, "Put", v.Put(vault.Work, key(n), p), api.OK)
		steps += (size+127)/128 + 3
		wantSteps(t, d, steps)
		want(t, "the same once more", v.Put(vault.Work, key(n), p), api.OK)
		wantSteps(t, d, steps)
		want(t, "of another kind", v.Put(vault.Job, key(n), p), api.ErrTwice)
		want(t, "one byte more", v.Put(vault.Work, key(n), append(p, 0)), api.ErrTwice)
		if size > 0 {
			want(t, "one byte less", v.Put(vault.Work, key(n), p[:size-1]), api.ErrTwice)
			p[size-1]++
			want(t, "another byte", v.Put(vault.Work, key(n), p), api.ErrTwice)
			p[size-1]--
		}
		wantSteps(t, d, steps)
		want(t, "under another key", v.Put(vault.Job, key(n+100), p), api.OK)
		steps += 2
		wantSteps(t, d, steps)
		wantBytes(t, v, key(n), p)
		wantBytes(t, v, key(n+100), p)
	}
}

// P24.2: each step of a Put, in its order: bytes are synced ahead of the slot.
func TestPutOrder(t *testing.T) {
	rows := []struct {
		fuse  int
		loose []int
	}{
		{0, nil}, {1, []int{5}}, {2, []int{5, 6}}, {3, []int{5, 6, 7}}, {4, nil}, {5, []int{1}},
	}
	for _, row := range rows {
		d, v := fresh(t, 16)
		want(t, "Put", v.Put(vault.Job, key(1), text(1, 100)), api.OK)
		want(t, "Fuse", d.Fuse(row.fuse), api.OK)
		want(t, "Put", v.Put(vault.Work, key(2), text(2, 300)), api.ErrDown)
		if got := d.Loose(); !slices.Equal(got, row.loose) || d.Steps() != 4+row.fuse {
			t.Errorf("behind %d steps (%d) %v are loose, not %v", row.fuse, d.Steps(), got, row.loose)
		}
		wantDead(t, v, api.ErrDown, key(2))
	}
	d, v := fresh(t, 16)
	want(t, "Fuse", d.Fuse(6), api.OK)
	want(t, "Put", v.Put(vault.Work, key(2), text(2, 300)), api.OK)
	wantBytes(t, v, key(2), text(2, 300))
}

// P24.2: a Drop empties slots in the order of the keys, those that there are, and each of them once; then it syncs.
func TestDropOrder(t *testing.T) {
	keys := []api.Digest{key(3), key(8), key(1), key(3), key(4), key(1), key(9)}
	slots := []int{3, 1, 4}
	for fuse := range 5 {
		d, v := fresh(t, 40)
		for n := range 6 {
			want(t, "Put", v.Put(1+n%2, key(n), text(n, 50)), api.OK)
		}
		steps := d.Steps()
		want(t, "Fuse", d.Fuse(fuse), api.OK)
		if fuse == 4 {
			want(t, "Drop", v.Drop(keys...), api.OK)
			wantSteps(t, d, steps+4)
			wantUsed(t, v, 3, 3)
			wantKeys(t, v, vault.Job, key(0), key(2))
			wantKeys(t, v, vault.Work, key(5))
			continue
		}
		want(t, "Drop", v.Drop(keys...), api.ErrDown)
		loose := slices.Sorted(slices.Values(slots[:fuse]))
		if got := d.Loose(); !slices.Equal(got, loose) || d.Steps() != steps+fuse {
			t.Errorf("behind %d steps %v are loose, not %v", fuse, got, loose)
		}
		wantDead(t, v, api.ErrDown, keys...)
	}
}

// P24.2: a Drop of nothing that there is does no step.
func TestDropNothing(t *testing.T) {
	d, v := fresh(t, 8)
	want(t, "Fuse", d.Fuse(0), api.OK)
	want(t, "Drop", v.Drop(), api.OK)
	want(t, "Drop", v.Drop(key(1)), api.OK)
	want(t, "Drop", v.Drop(api.Digest{}, key(2), key(2)), api.OK)
	wantSteps(t, d, 0)
	want(t, "Fuse", d.Fuse(-1), api.OK)
	want(t, "Put", v.Put(vault.Job, key(1), []byte{1}), api.OK)
	want(t, "Drop", v.Drop(key(1)), api.OK)
	wantSteps(t, d, 6)
	want(t, "Drop", v.Drop(key(1)), api.OK)
	wantSteps(t, d, 6)
	wantNone(t, v, key(1))
}

// P24.2: a slot that was emptied is the first one again; bytes go where the first room is, which may be between others.
func TestRoom(t *testing.T) {
	d, v := fresh(t, 40)
	place := func(slot int, size int, from int) {
		t.Helper()
		b, _ := d.Read(slot)
		if int(b[65])+256*int(b[66]) != size || int(b[69]) != from {
			t.Fatalf("the slot %d has %d bytes from %d on, not %d from %d on", slot, int(b[65])+256*int(b[66]), b[69], size, from)
		}
	}
	for n, size := range []int{300, 128, 400, 1, 0, 700} {
		want(t, "Put", v.Put(vault.Work, key(n), text(n, size)), api.OK)
	}
	for slot, from := range []int{10, 13, 14, 18, 10, 19} {
		place(slot, []int{300, 128, 400, 1, 0, 700}[slot], from)
	}
	want(t, "Drop", v.Drop(key(2), key(0)), api.OK)
	want(t, "Put", v.Put(vault.Work, key(10), text(10, 385)), api.OK)
	place(0, 385, 14)
	want(t, "Put", v.Put(vault.Work, key(11), text(11, 129)), api.OK)
	place(2, 129, 10)
	want(t, "Put", v.Put(vault.Work, key(12), text(12, 129)), api.OK)
	place(6, 129, 25)
	want(t, "Put", v.Put(vault.Work, key(13), text(13, 128)), api.OK)
	place(7, 128, 12)
	// What is kept elsewhere stays there, though there is room ahead of it.
	want(t, "Drop", v.Drop(key(11), key(13)), api.OK)
	want(t, "Put", v.Put(vault.Job, key(14), text(1, 128)), api.OK)
	place(2, 128, 13)
	wantUsed(t, v, 7, 1+4+1+6+2)
	// To the device's end, and no block beyond.
	want(t, "Put", v.Put(vault.Job, key(15), text(15, 13*128+1)), api.ErrFull)
	want(t, "Put", v.Put(vault.Job, key(15), text(15, 13*128)), api.OK)
	place(7, 13*128, 27)
	want(t, "Put", v.Put(vault.Job, key(16), text(16, 3*128+1)), api.ErrFull)
	want(t, "Put", v.Put(vault.Job, key(16), text(16, 3*128)), api.OK)
	place(8, 3*128, 10)
	// All blocks are taken: nothing finds room, but what is nothing, or there.
	want(t, "Put", v.Put(vault.Job, key(17), []byte{1}), api.ErrFull)
	want(t, "Put", v.Put(vault.Job, key(17), text(15, 13*128)), api.OK)
	place(9, 13*128, 27)
	wantUsed(t, v, 10, 30)
	want(t, "Put", v.Put(vault.Job, key(18), nil), api.ErrFull)
	want(t, "Drop", v.Drop(key(4)), api.OK)
	want(t, "Put", v.Put(vault.Job, key(18), nil), api.OK)
	place(4, 0, 10)
	wantBytes(t, v, key(18), nil)
}

// P24.2, P24.3: on a device that somebody else laid, bytes may lie one in the other, and nothing may stand anywhere: room is where no bytes are, as a slot of no bytes takes none; each block counts once.
func TestRoomLaid(t *testing.T) {
	rows := []struct {
		// spans are where bytes begin, and how many blocks they take.
		spans [][2]int
		// blocks are what is put, from is where it goes, used is what all takes then.
		blocks, from, used int
	}{
		{[][2]int{{20, 0}}, 25, 10, 25},
		{[][2]int{{41, 0}, {11, 0}, {10, 0}}, 31, 10, 31},
		{[][2]int{{12, 10}, {13, 1}, {18, 2}}, 3, 22, 13},
		{[][2]int{{18, 2}, {12, 10}, {13, 1}}, 2, 10, 12},
		{[][2]int{{10, 20}, {10, 1}, {12, 3}, {28, 4}}, 9, 32, 31},
		{[][2]int{{10, 20}, {10, 1}, {12, 3}, {28, 4}}, 1, 32, 23},
		{[][2]int{{10, 2}, {11, 2}, {12, 2}, {16, 4}, {19, 4}}, 2, 14, 13},
		{[][2]int{{10, 2}, {11, 2}, {12, 2}, {16, 4}, {19, 4}}, 3, 23, 14},
		{[][2]int{{38, 3}, {10, 1}, {15, 1}, {13, 1}}, 2, 11, 8},
		{[][2]int{{38, 3}, {10, 1}, {15, 1}, {13, 1}}, 3, 16, 9},
		{[][2]int{{38, 3}, {10, 1}, {15, 1}, {13, 1}}, 22, 16, 28},
		{[][2]int{{38, 3}, {10, 1}, {15, 1}, {13, 1}}, 23, 0, 6},
	}
	all := text(1, 41*128)
	for _, row := range rows {
		slots := map[int]drum.Block{}
		for n, span := range row.spans {
			slots[n] = entryOf(vault.Work, key(n), all[128*span[0]:128*(span[0]+span[1])], span[0])
		}
		d := laid(t, 41, slots, map[int][]byte{10: all[1280:]})
		v := opened(t, d)
		p := text(2, 128*row.blocks)
		if row.from == 0 {
			want(t, "no room", v.Put(vault.Job, key(99), p), api.ErrFull)
			wantUsed(t, v, len(row.spans), row.used)
			continue
		}
		want(t, "Put", v.Put(vault.Job, key(99), p), api.OK)
		if b, _ := d.Read(len(row.spans)); b != entryOf(vault.Job, key(99), p, row.from) {
			t.Errorf("%v: it isn't at %d: %x", row, row.from, b)
		}
		wantUsed(t, v, len(row.spans)+1, row.used)
		w := opened(t, d)
		for n, span := range row.spans {
			wantBytes(t, w, key(n), all[128*span[0]:128*(span[0]+span[1])])
		}
	}
}

// P24.2: bytes of one number and another sum, and those that begin alike, are other bytes.
func TestOtherBytes(t *testing.T) {
	p, q := text(1, 200), text(2, 200)
	d, v := fresh(t, 41)
	want(t, "Put", v.Put(vault.Work, key(1), p), api.OK)
	want(t, "Put", v.Put(vault.Work, key(2), q), api.OK)
	want(t, "Put", v.Put(vault.Work, key(3), p[:199]), api.OK)
	want(t, "Put", v.Put(vault.Work, key(4), append(bytes.Clone(p), 0)), api.OK)
	wantUsed(t, v, 4, 8)
	wantSteps(t, d, 4*5)
}

// P24.2: all that a Put may be refused for, in the chapter's order; nothing is written.
func TestPutErrors(t *testing.T) {
	d, v := fresh(t, 12)
	p, long := text(1, 100), make([]byte, api.MaxBlob+1)
	want(t, "Put", v.Put(vault.Work, key(1), p), api.OK)
	want(t, "Put", v.Put(vault.Job, key(2), text(2, 900)), api.OK)
	steps := d.Steps()
	for _, kind := range far {
		want(t, "no such kind", v.Put(kind, key(1), long), api.ErrArg)
		want(t, "no such kind", v.Put(kind, key(1), p), api.ErrArg)
		want(t, "no such kind", v.Put(kind, key(3), nil), api.ErrArg)
	}
	want(t, "too many bytes under a key", v.Put(vault.Work, key(1), long), api.ErrLimit)
	want(t, "too many bytes", v.Put(vault.Job, key(3), long), api.ErrLimit)
	want(t, "no room", v.Put(vault.Job, key(3), long[1:]), api.ErrFull)
	want(t, "no room", v.Put(vault.Job, key(3), text(3, 1)), api.ErrFull)
	want(t, "another thing, without room", v.Put(vault.Job, key(1), text(3, 1)), api.ErrTwice)
	wantSteps(t, d, steps)
	want(t, "Put", v.Put(vault.Job, key(3), p), api.OK)
	steps += 2
	// No slot is empty.
	want(t, "no slot", v.Put(vault.Job, key(4), p), api.ErrFull)
	want(t, "no slot", v.Put(vault.Job, key(4), nil), api.ErrFull)
	want(t, "the same", v.Put(vault.Work, key(1), p), api.OK)
	want(t, "another kind", v.Put(vault.Job, key(1), p), api.ErrTwice)
	want(t, "of no bytes", v.Put(vault.Work, key(1), nil), api.ErrTwice)
	wantSteps(t, d, steps)
	wantKeys(t, v, vault.Work, key(1))
	wantKeys(t, v, vault.Job, key(2), key(3))
}

// P24.2: while the power is gone, what needs no device is answered as ever; the device's error is the last one, and by it the vault is dead, also when the power is there again.
func TestDeviceErrors(t *testing.T) {
	p := text(1, 100)
	for _, full := range []bool{false, true} {
		d, v := fresh(t, 12)
		want(t, "Put", v.Put(vault.Work, key(1), p), api.OK)
		if full {
			want(t, "Put", v.Put(vault.Work, key(2), p), api.OK)
			want(t, "Put", v.Put(vault.Work, key(3), p), api.OK)
		}
		want(t, "Fuse", d.Fuse(0), api.OK)
		want(t, "Sync", d.Sync(), api.ErrDown)
		want(t, "no kind", v.Put(0, key(1), p), api.ErrArg)
		want(t, "too much", v.Put(vault.Work, key(1), make([]byte, api.MaxBlob+1)), api.ErrLimit)
		want(t, "the same", v.Put(vault.Work, key(1), p), api.OK)
		want(t, "another kind", v.Put(vault.Job, key(1), p), api.ErrTwice)
		wantNone(t, v, key(4))
		want(t, "Drop", v.Drop(key(4)), api.OK)
		// A Get that the device refuses leaves the vault alive.
		wantNoBytes(t, v, key(1), api.ErrDown)
		wantKeys(t, v, vault.Job)
		if !v.Has(key(1)) {
			t.Error("it isn't there any more")
		}
		if full {
			want(t, "no slot", v.Put(vault.Work, key(4), p), api.ErrFull)
			want(t, "Crash", d.Crash(), api.OK)
			wantBytes(t, v, key(3), p)
			continue
		}
		want(t, "no room", v.Put(vault.Work, key(4), text(4, 9*128)), api.ErrFull)
		want(t, "Put", v.Put(vault.Work, key(4), p), api.ErrDown)
		wantDead(t, v, api.ErrDown, key(1))
		want(t, "Crash", d.Crash(), api.OK)
		wantDead(t, v, api.ErrDown, key(1))
		wantBytes(t, opened(t, d), key(1), p)
	}
}

// P24.2, P24.3: a vault is dead by a Drop, too; each Get of a device without power is refused ahead of its sum.
func TestDeadByDrop(t *testing.T) {
	d, v := fresh(t, 8)
	p := text(1, 100)
	want(t, "Put", v.Put(vault.Work, key(1), p), api.OK)
	want(t, "Write", d.Write(2, drum.Block{1}), api.OK)
	wantNoBytes(t, v, key(1), api.ErrSum)
	want(t, "Fuse", d.Fuse(0), api.OK)
	want(t, "Sync", d.Sync(), api.ErrDown)
	wantNoBytes(t, v, key(1), api.ErrDown)
	want(t, "Crash", d.Crash(), api.OK)
	wantBytes(t, v, key(1), p)
	want(t, "Fuse", d.Fuse(1), api.OK)
	want(t, "Drop", v.Drop(key(1)), api.ErrDown)
	wantDead(t, v, api.ErrDown, key(1))
	want(t, "Crash", d.Crash(), api.OK)
	wantDead(t, v, api.ErrDown, key(1))
}

// P24.3: keys rise byte by byte, from the first byte on, each as a number from 0 to 255; whatever their order was; each kind alone.
func TestKeysRising(t *testing.T) {
	_, v := fresh(t, 2048)
	var keys []api.Digest
	r := draw(3)
	for n := range 250 {
		k := api.Digest{byte(r.below(4) * 64), byte(r.below(3) * 100), 31: byte(n)}
		keys = append(keys, k)
		want(t, "Put", v.Put(1+n%3/2, k, text(n%7, 20)), api.OK)
	}
	for kind := range 2 {
		var l []api.Digest
		for n, k := range keys {
			if n%3/2 == kind {
				l = append(l, k)
			}
		}
		slices.SortFunc(l, func(a, b api.Digest) int { return bytes.Compare(a[:], b[:]) })
		wantKeys(t, v, 1+kind, l...)
	}
	for _, kind := range far {
		wantKeys(t, v, kind)
	}
	for at := range 32 {
		_, w := fresh(t, 8)
		low, high := api.Digest{}, api.Digest{}
		low[at], high[at] = 127, 128
		if at < 31 {
			low[31] = 255
		}
		want(t, "Put", w.Put(vault.Job, high, nil), api.OK)
		want(t, "Put", w.Put(vault.Job, low, nil), api.OK)
		wantKeys(t, w, vault.Job, low, high)
	}
}

// P24.2: all slots, all blocks, the most bytes, on the greatest device.
func TestLargest(t *testing.T) {
	d, v := fresh(t, 8192)
	long := [][]byte{text(0, 1<<18), text(1, 1<<18), text(2, 1<<18), text(3, 1536*128+1)}
	for n := range 3 {
		want(t, "Put", v.Put(vault.Work, key(n), long[n]), api.OK)
	}
	want(t, "too many", v.Put(vault.Work, key(3), make([]byte, 1<<18+1)), api.ErrLimit)
	want(t, "no room", v.Put(vault.Work, key(3), make([]byte, 1<<18)), api.ErrFull)
	want(t, "no room", v.Put(vault.Work, key(3), long[3]), api.ErrFull)
	want(t, "Put", v.Put(vault.Work, key(3), long[3][:1536*128]), api.OK)
	wantUsed(t, v, 4, 7680)
	wantSteps(t, d, 7680+4*3)
	for n := 4; n < 512; n++ {
		want(t, "no room", v.Put(vault.Job, key(n), []byte{1}), api.ErrFull)
		if n%16 < 3 {
			want(t, "Put", v.Put(vault.Job, key(n), long[n%16]), api.OK)
			continue
		}
		want(t, "Put", v.Put(vault.Job, key(n), nil), api.OK)
	}
	want(t, "no slot", v.Put(vault.Work, key(512), nil), api.ErrFull)
	wantUsed(t, v, 512, 7680)
	w := opened(t, d)
	wantUsed(t, w, 512, 7680)
	wantBytes(t, w, key(498), long[2])
	wantBytes(t, w, key(511), nil)
	want(t, "Drop", w.Drop(append(w.Keys(vault.Job), w.Keys(vault.Work)...)...), api.OK)
	wantUsed(t, w, 0, 0)
	wantUsed(t, opened(t, d), 0, 0)
	if !bytes.Equal(image(t, d)[:512*128], make([]byte, 512*128)) {
		t.Error("a slot isn't empty")
	}
}

// R1: a nil vault.
func TestNil(t *testing.T) {
	wantDead(t, nil, api.ErrNil)
}

// R1: vaults and devices that weren't made by a call end, and don't panic.
func TestNotMade(t *testing.T) {
	for _, v := range []*vault.Vault{new(vault.Vault), {}} {
		for _, kind := range append(far, vault.Job, vault.Work) {
			v.Put(kind, key(1), nil)
			v.Put(kind, api.Digest{}, text(1, 300))
			v.Keys(kind)
		}
		v.Get(key(1))
		v.Has(api.Digest{})
		v.Drop(key(1), api.Digest{})
		v.Used()
	}
	v, _ := vault.Open(new(drum.Drum))
	v.Put(vault.Work, key(1), []byte{1})
	v.Drop(key(1))
	v.Get(key(1))
	v.Used()
}

// R3: what is handed in stays as it is, and isn't kept.
func TestHandedIn(t *testing.T) {
	d, v := fresh(t, 40)
	room := text(1, 200)
	was := bytes.Clone(room)
	want(t, "Put", v.Put(vault.Work, key(1), room[:130]), api.OK)
	if !bytes.Equal(room, was) {
		t.Error("what was put is another thing")
	}
	clear(room)
	wantBytes(t, v, key(1), was[:130])
	want(t, "Put", v.Put(vault.Work, key(1), was[:130]), api.OK)
	keys := []api.Digest{key(9), key(1), key(3), key(2), key(1)}
	want(t, "Drop", v.Drop(keys[:2]...), api.OK)
	if !slices.Equal(keys, []api.Digest{key(9), key(1), key(3), key(2), key(1)}) {
		t.Error("the keys are other ones")
	}
	wantSteps(t, d, 7)
}

// R3: what is handed out is new memory, its spare room, too.
func TestHandedOut(t *testing.T) {
	d, v := fresh(t, 40)
	p := text(1, 130)
	want(t, "Put", v.Put(vault.Work, key(1), p), api.OK)
	want(t, "Put", v.Put(vault.Work, key(2), p), api.OK)
	was := image(t, d)
	a, _ := v.Get(key(1))
	b, _ := v.Get(key(2))
	c, _ := v.Get(key(1))
	clear(a[:cap(a)])
	if !bytes.Equal(b, p) || !bytes.Equal(c, p) {
		t.Error("another answer is another one now")
	}
	wantBytes(t, v, key(1), p)
	l := v.Keys(vault.Work)
	clear(l[:cap(l)])
	wantKeys(t, v, vault.Work, key(1), key(2))
	if !bytes.Equal(image(t, d), was) {
		t.Error("the device is another one")
	}
}

// P24.2, P24.3: two vaults on two devices know nothing of one another.
func TestTwoVaults(t *testing.T) {
	d, v := fresh(t, 8)
	f, w := fresh(t, 8)
	want(t, "Put", v.Put(vault.Work, key(1), text(1, 10)), api.OK)
	want(t, "Fuse", d.Fuse(0), api.OK)
	want(t, "Put", v.Put(vault.Work, key(2), text(2, 10)), api.ErrDown)
	wantUsed(t, w, 0, 0)
	want(t, "Put", w.Put(vault.Work, key(1), text(3, 10)), api.OK)
	wantBytes(t, w, key(1), text(3, 10))
	wantSteps(t, f, 4)
}
