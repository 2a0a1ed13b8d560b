package vault_test

import (
	"bytes"
	"crypto/sha256"
	"encoding/hex"
	"slices"
	"testing"

	"zoetrope/api"
	"zoetrope/vault"
)

// kept is what a slot tells; it is empty if its kind is 0.
type kept struct {
	kind       int
	key, sum   api.Digest
	size, from int
}

// model is a vault by the chapter's words, with all bytes of its device, without power that goes.
type model struct {
	slots  []kept
	device []byte
	steps  int
}

// modelOf is an empty one of so many blocks.
func modelOf(blocks int) *model {
	return &model{slots: make([]kept, min(blocks/4, 512)), device: make([]byte, 128*blocks)}
}

// find is the slot of a key, or -1.
func (m *model) find(key api.Digest) int {
	return slices.IndexFunc(m.slots, func(k kept) bool { return k.kind != 0 && k.key == key })
}

// taken tells of each block whether some slot's bytes take it.
func (m *model) taken() []bool {
	l := make([]bool, len(m.device)/128)
	for _, k := range m.slots {
		for i := 0; i < k.size; i += 128 {
			l[k.from+i/128] = true
		}
	}
	return l
}

// room is where bytes of that sum and number are, or could be; whether they are there; and whether there is such a place.
func (m *model) room(sum api.Digest, size int) (from int, there, ok bool) {
	for _, k := range m.slots {
		if k.kind != 0 && k.sum == sum && k.size == size {
			return k.from, true, true
		}
	}
	need, taken := (size+127)/128, m.taken()
	for from = len(m.slots); from+need <= len(taken); from++ {
		if !slices.Contains(taken[from:from+need], true) {
			return from, false, true
		}
	}
	return 0, false, false
}

// write is a slot on the device.
func (m *model) write(at int, k kept) {
	m.slots[at] = k
	b := entry(k.kind, k.key, k.sum, k.size, k.from)
	copy(m.device[128*at:], b[:])
	m.steps++
}

// put is Put.
func (m *model) put(kind int, key api.Digest, p []byte) api.Errno {
	k := kept{kind, key, sha256.Sum256(p), len(p), 0}
	if at := m.find(key); at >= 0 {
		if m.slots[at].kind == kind && m.slots[at].sum == k.sum && m.slots[at].size == k.size {
			return api.OK
		}
		return api.ErrTwice
	}
	at := slices.IndexFunc(m.slots, func(k kept) bool { return k.kind == 0 })
	from, there, ok := m.room(k.sum, k.size)
	if at < 0 || !ok {
		return api.ErrFull
	}
	if !there {
		blocks := (len(p) + 127) / 128
		clear(m.device[128*from : 128*(from+blocks)])
		copy(m.device[128*from:], p)
		m.steps += blocks + 1
	}
	k.from = from
	m.write(at, k)
	m.steps++
	return api.OK
}

// drop is Drop.
func (m *model) drop(keys ...api.Digest) api.Errno {
	was := m.steps
	for _, key := range keys {
		if at := m.find(key); at >= 0 {
			m.write(at, kept{})
		}
	}
	if m.steps > was {
		m.steps++
	}
	return api.OK
}

// keys are Keys.
func (m *model) keys(kind int) []api.Digest {
	var l []api.Digest
	for _, k := range m.slots {
		if k.kind == kind {
			l = append(l, k.key)
		}
	}
	slices.SortFunc(l, func(a, b api.Digest) int { return bytes.Compare(a[:], b[:]) })
	return l
}

// hold holds a vault to answer all that the model does, of so many keys.
func (m *model) hold(t *testing.T, v *vault.Vault, keys int) {
	t.Helper()
	for n := range keys {
		at := m.find(key(n))
		if at < 0 {
			wantNone(t, v, key(n))
			continue
		}
		k := m.slots[at]
		wantBytes(t, v, k.key, m.device[128*k.from:128*k.from+k.size])
	}
	wantKeys(t, v, vault.Job, m.keys(vault.Job)...)
	wantKeys(t, v, vault.Work, m.keys(vault.Work)...)
	many, blocks := 0, 0
	for _, k := range m.slots {
		many += min(k.kind, 1)
	}
	for _, b := range m.taken() {
		if b {
			blocks++
		}
	}
	wantUsed(t, v, many, blocks)
}

// deed is something that is done to a vault: a Put, or, if it has no kind, a Drop of some keys.
type deed struct {
	kind int
	key  api.Digest
	p    []byte
	drop []api.Digest
}

// do does it.
func (d deed) do(v *vault.Vault) api.Errno {
	if d.kind == 0 {
		return v.Drop(d.drop...)
	}
	return v.Put(d.kind, d.key, d.p)
}

// model does it to a model.
func (d deed) model(m *model) api.Errno {
	if d.kind == 0 {
		return m.drop(d.drop...)
	}
	return m.put(d.kind, d.key, d.p)
}

// deed is a drawn one, of so many keys, and of no more than so many bytes; many texts are put more than once.
func (d *draw) deed(keys, most int) deed {
	if d.below(4) == 0 {
		var l []api.Digest
		for range d.below(4) {
			l = append(l, key(d.below(keys)))
		}
		return deed{drop: l}
	}
	kind, k, mark := 1+d.below(2), key(d.below(keys)), d.below(12)
	size := d.below(most)
	if d.below(2) == 0 {
		size = 128*(mark/2) + mark%3
	}
	return deed{kind: kind, key: k, p: text(mark, size)}
}

// P24.2, P24.3: drawn pasts, held against the chapter's words behind each call: answers, steps, and all bytes of the device; and once more, as it is opened anew.
func TestByTheWords(t *testing.T) {
	for past := range 120 {
		r := draw(past)
		blocks := 4 + r.below(90)
		keys, most := max(3, blocks/4*5/4), 3*128*4
		d, v := fresh(t, blocks)
		m := modelOf(blocks)
		for range 60 {
			deed := r.deed(keys, most)
			if got, e := deed.do(v), deed.model(m); got != e {
				t.Fatalf("%d blocks, %d, %x: %d, not %d", blocks, deed.kind, deed.drop, got, e)
			}
			wantSteps(t, d, m.steps)
			m.hold(t, v, keys)
			if !bytes.Equal(image(t, d), m.device) {
				t.Fatalf("%d blocks: the device is another one", blocks)
			}
			if r.below(5) == 0 {
				v = opened(t, d)
				m.hold(t, v, keys)
			}
		}
	}
}

// P24.1 to P24.3: long pasts on devices up to the greatest one, as another program reckoned them: how many deeds had which error, the steps, what is used, and the sum of all bytes of the device.
func TestByAnotherProgram(t *testing.T) {
	rows := []struct {
		blocks, seed, deeds, steps, many, used, ok, twice, full int
		sum                                                     string
	}{
		{8, 1, 60, 55, 2, 4, 17, 17, 26, "8b58540e19d38b5e7b73965a9afff2b33ef982cbed8e60ced001e5ef7ffe8c34"},
		{60, 2, 300, 618, 12, 33, 163, 117, 20, "6b984d7b1e94fdbd2b983182a95a24224a7cf0e77f1cf9c66acad1e589072b76"},
		{400, 3, 1500, 2798, 75, 226, 788, 671, 41, "950f5ad63974d020203e79fd3d6b0ea57080d144248b032d6b9f6d779af4e031"},
		{8192, 4, 1200, 7688, 382, 4131, 853, 347, 0, "0ffbf2db998151852e64dd3fb198d931069894a3937a84583d9787d56fc3cded"},
	}
	for _, row := range rows {
		d, v := fresh(t, row.blocks)
		r, told := draw(row.seed), [41]int{}
		slots := vault.Slots(row.blocks)
		for range row.deeds {
			told[r.deed(max(3, slots+slots/4), 3*128*row.blocks/slots).do(v)]++
		}
		if told[api.OK] != row.ok || told[api.ErrTwice] != row.twice || told[api.ErrFull] != row.full {
			t.Errorf("%d blocks: %v", row.blocks, told)
		}
		wantSteps(t, d, row.steps)
		wantUsed(t, v, row.many, row.used)
		if sum := sha256.Sum256(image(t, d)); hex.EncodeToString(sum[:]) != row.sum {
			t.Errorf("%d blocks: the device's sum is %x", row.blocks, sum)
		}
		wantUsed(t, opened(t, d), row.many, row.used)
	}
}
