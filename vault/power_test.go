package vault_test

import (
	"bytes"
	"slices"
	"testing"

	"zoetrope/api"
	"zoetrope/drum"
	"zoetrope/vault"
)

// past is what is done to a vault on a device of so many blocks, whose keys are those below a number.
type past struct {
	blocks, keys int
	deeds        []deed
}

// found is what is kept under a key; its kind is 0, if nothing is.
type found struct {
	kind int
	p    string
}

// all are what is kept under each key.
func (m *model) all(keys int) []found {
	l := make([]found, keys)
	for n := range l {
		if at := m.find(key(n)); at >= 0 {
			k := m.slots[at]
			l[n] = found{k.kind, string(m.device[128*k.from : 128*k.from+k.size])}
		}
	}
	return l
}

// allOf is the same of a vault.
func allOf(t *testing.T, v *vault.Vault, keys int) []found {
	t.Helper()
	l := make([]found, keys)
	for n := range l {
		p, e := v.Get(key(n))
		if v.Has(key(n)) != (e == api.OK) || e != api.OK && e != api.ErrNone {
			t.Fatalf("the key %d: %d, %v", n, e, v.Has(key(n)))
		}
		for _, kind := range []int{vault.Job, vault.Work} {
			if slices.Contains(v.Keys(kind), key(n)) {
				l[n] = found{kind, string(p)}
			}
		}
	}
	return l
}

// cut is a past up to where the power goes: what was there behind the last deed that was done, what would be behind the one that wasn't, and its place.
type cut struct {
	was, then []found
	at        int
}

// run does a past on a new device whose fuse is that, till it goes out.
func (p past) run(t *testing.T, fuse int) (*drum.Drum, cut) {
	t.Helper()
	d, v := fresh(t, p.blocks)
	m := modelOf(p.blocks)
	want(t, "Fuse", d.Fuse(fuse), api.OK)
	for at, deed := range p.deeds {
		was := m.all(p.keys)
		e := deed.model(m)
		if got := deed.do(v); got != e || m.steps > fuse {
			want(t, "behind the fuse", got, api.ErrDown)
			wantDead(t, v, api.ErrDown, key(0))
			return d, cut{was, m.all(p.keys), at}
		}
	}
	t.Fatal("the fuse is too long")
	return nil, cut{}
}

// steps is how many steps a past takes in all.
func (p past) steps() int {
	m := modelOf(p.blocks)
	for _, deed := range p.deeds {
		deed.model(m)
	}
	return m.steps
}

// holdCut holds a vault behind a crash to have what it had, and of the deed that wasn't done those slots that were kept, and no other ones.
func (p past) holdCut(t *testing.T, v *vault.Vault, c cut, keep []int) {
	t.Helper()
	turned, slots := 0, 0
	for n, got := range allOf(t, v, p.keys) {
		if got != c.was[n] && got != c.then[n] {
			t.Fatalf("the key %d has %d, %d bytes, which is neither what it had, nor what it should get", n, got.kind, len(got.p))
		}
		if got != c.was[n] {
			turned++
		}
	}
	for _, at := range keep {
		if at < vault.Slots(p.blocks) {
			slots++
		}
	}
	if turned != slots {
		t.Fatalf("%d keys are turned by %d slots", turned, slots)
	}
}

// goOn does the rest of a past, the deed that wasn't done among it, on a device behind a crash: then all is as if the power had never gone, to the last byte.
func (p past) goOn(t *testing.T, d *drum.Drum, v *vault.Vault, at int) {
	t.Helper()
	m := modelOf(p.blocks)
	for n, deed := range p.deeds {
		e := deed.model(m)
		if n >= at {
			want(t, "behind the crash", deed.do(v), e)
		}
	}
	m.hold(t, v, p.keys)
	if !bytes.Equal(image(t, d), m.device) {
		t.Fatal("the device is another one")
	}
	m.hold(t, opened(t, d), p.keys)
}

// keeps are the subsets of what is loose: all, if they are few, else some that are drawn, those of nothing and of all among them.
func keeps(r *draw, loose []int) [][]int {
	var l [][]int
	few := len(loose) <= 5
	for n := range 32 {
		if few && n >= 1<<len(loose) {
			break
		}
		var keep []int
		for i, at := range loose {
			if few && n>>i&1 == 1 || !few && (n == 1 || n > 1 && r.below(2) == 1) {
				keep = append(keep, at)
			}
		}
		l = append(l, keep)
	}
	return l
}

// holdAll lets the power of a past go behind each number of steps, and keeps all subsets of what is loose then.
func (p past) holdAll(t *testing.T, r *draw) {
	t.Helper()
	for fuse := range p.steps() {
		d, _ := p.run(t, fuse)
		for _, keep := range keeps(r, d.Loose()) {
			d, c := p.run(t, fuse)
			want(t, "Crash", d.Crash(keep...), api.OK)
			v := opened(t, d)
			p.holdCut(t, v, c, keep)
			p.goOn(t, d, v, c.at)
		}
	}
}

// put is a Put, drop a Drop.
func put(kind, n, mark, size int) deed { return deed{kind: kind, key: key(n), p: text(mark, size)} }
func drop(l ...int) deed {
	var d deed
	for _, n := range l {
		d.drop = append(d.drop, key(n))
	}
	return d
}

// P24.4: wherever the power goes, whichever blocks are kept: pasts of each kind of deed.
func TestPower(t *testing.T) {
	pasts := []past{
		{8, 3, []deed{put(1, 0, 1, 0), put(2, 1, 1, 0), drop(0), put(2, 2, 1, 5), drop(1, 2)}},
		{16, 4, []deed{put(2, 0, 1, 300), put(2, 1, 2, 200), put(1, 2, 1, 300), drop(0), put(2, 0, 3, 150), drop(2), put(1, 3, 4, 385)}},
		{20, 5, []deed{put(1, 0, 1, 100), put(1, 1, 2, 100), put(2, 2, 3, 100), put(2, 3, 4, 100), put(2, 4, 5, 100), drop(4, 0, 3, 0, 2, 1), put(1, 4, 6, 600), put(1, 0, 1, 100)}},
		{12, 4, []deed{put(1, 0, 1, 500), put(2, 1, 2, 500), put(2, 2, 3, 500), put(2, 1, 1, 500), drop(0, 3), put(2, 0, 4, 513), put(2, 3, 4, 512), drop(1), put(1, 0, 4, 512), put(1, 1, 4, 512)}},
	}
	r := draw(5)
	for _, p := range pasts {
		p.holdAll(t, &r)
	}
}

// P24.4: drawn pasts.
func TestPowerDrawn(t *testing.T) {
	r := draw(6)
	for range 20 {
		p := past{blocks: 4 + r.below(30)}
		p.keys = max(3, p.blocks/4+1)
		for range 10 {
			p.deeds = append(p.deeds, r.deed(p.keys, 128*6))
		}
		p.holdAll(t, &r)
	}
}

// P24.4: power that goes again and again, also while what was lost is done once more: what was there stays, and in the end all is as it would have been.
func TestPowerAgainAndAgain(t *testing.T) {
	r := draw(7)
	for range 300 {
		p := past{blocks: 4 + r.below(30)}
		p.keys = max(3, p.blocks/4+1)
		for range 12 {
			p.deeds = append(p.deeds, r.deed(p.keys, 128*6))
		}
		d, v := fresh(t, p.blocks)
		m := modelOf(p.blocks)
		for _, deed := range p.deeds {
			c := cut{was: m.all(p.keys)}
			e := deed.model(m)
			c.then = m.all(p.keys)
			for crashes := 0; ; crashes++ {
				if crashes < 4 && r.below(2) == 0 {
					want(t, "Fuse", d.Fuse(r.below(6)), api.OK)
				}
				got := deed.do(v)
				if got == e {
					break
				}
				want(t, "a deed", got, api.ErrDown)
				sets := keeps(&r, d.Loose())
				want(t, "Crash", d.Crash(sets[r.below(len(sets))]...), api.OK)
				v = opened(t, d)
				for n, got := range allOf(t, v, p.keys) {
					if got != c.was[n] && got != c.then[n] {
						t.Fatalf("the key %d has %d, %d bytes", n, got.kind, len(got.p))
					}
				}
			}
			want(t, "Fuse", d.Fuse(-1), api.OK)
			m.hold(t, v, p.keys)
		}
		if !bytes.Equal(image(t, d), m.device) {
			t.Fatal("the device is another one")
		}
	}
}

// P24.4: what is done is there behind a crash that keeps nothing, whatever else is loose: a vault leaves nothing loose.
func TestDoneLasts(t *testing.T) {
	r := draw(8)
	for range 200 {
		blocks := 4 + r.below(60)
		keys := max(3, blocks/4+1)
		d, v := fresh(t, blocks)
		m := modelOf(blocks)
		for range 15 {
			deed := r.deed(keys, 128*6)
			want(t, "a deed", deed.do(v), deed.model(m))
			if r.below(3) == 0 {
				want(t, "Crash", d.Crash(), api.OK)
				m.hold(t, v, keys)
				v = opened(t, d)
			}
			m.hold(t, v, keys)
		}
	}
}

// P24.4: the power goes at drawn steps of a long text, with drawn blocks kept, on the greatest device.
func TestPowerLargest(t *testing.T) {
	first, second := text(1, 1<<18), text(2, 1<<18-5)
	r := draw(9)
	for _, fuse := range []int{0, 1, 700, 2047, 2048, 2049, 2050} {
		d, v := fresh(t, 8192)
		want(t, "Put", v.Put(vault.Job, key(1), first), api.OK)
		want(t, "Fuse", d.Fuse(fuse), api.OK)
		want(t, "Put", v.Put(vault.Work, key(2), second), api.ErrDown)
		sets := keeps(&r, d.Loose())
		keep := sets[len(sets)-1]
		want(t, "Crash", d.Crash(keep...), api.OK)
		w := opened(t, d)
		wantBytes(t, w, key(1), first)
		if len(keep) == 1 && keep[0] == 1 {
			wantBytes(t, w, key(2), second)
		} else {
			wantNone(t, w, key(2))
		}
		want(t, "Put", w.Put(vault.Work, key(2), second), api.OK)
		wantBytes(t, opened(t, d), key(2), second)
		wantUsed(t, w, 2, 4096)
	}
}
