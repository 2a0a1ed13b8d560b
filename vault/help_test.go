package vault_test

import (
	"bytes"
	"crypto/sha256"
	"encoding/binary"
	"math"
	"slices"
	"testing"

	"zoetrope/api"
	"zoetrope/drum"
	"zoetrope/vault"
)

// The calls, with the signatures that the chapter tells.
var (
	_ func(blocks int) int                                               = vault.Slots
	_ func(size int) int                                                 = vault.Need
	_ func(d *drum.Drum) (*vault.Vault, api.Errno)                       = vault.Open
	_ func(v *vault.Vault, kind int, key api.Digest, p []byte) api.Errno = (*vault.Vault).Put
	_ func(v *vault.Vault, key api.Digest) ([]byte, api.Errno)           = (*vault.Vault).Get
	_ func(v *vault.Vault, key api.Digest) bool                          = (*vault.Vault).Has
	_ func(v *vault.Vault, kind int) []api.Digest                        = (*vault.Vault).Keys
	_ func(v *vault.Vault, keys ...api.Digest) api.Errno                 = (*vault.Vault).Drop
	_ func(v *vault.Vault) (many, blocks int)                            = (*vault.Vault).Used
	_ [1]bool                                                            = [vault.Job]bool{}
	_ [2]bool                                                            = [vault.Work]bool{}
)

// far are numbers that are no kind, whatever is cut off them.
var far = []int{0, -1, -2, 3, 4, 255, 256, 257, 258, 1 << 32, 1<<32 + 1, 1<<32 + 2, -1 << 32, math.MaxInt, math.MinInt, math.MinInt + 1}

// draw is a list of numbers without any order in them, the same ones in every run.
type draw uint64

// below is the next of them, from 0 on, below n.
func (d *draw) below(n int) int {
	*d = *d*6364136223846793005 + 1442695040888963407
	return int(uint64(*d) >> 33 % uint64(n))
}

// text are so many bytes, other ones for each mark.
func text(mark, size int) []byte {
	p := make([]byte, size)
	d := draw(mark*1000003 + size)
	for i := range p {
		p[i] = byte(d.below(256))
	}
	return p
}

// key is a key that tells a number from others.
func key(n int) api.Digest { return api.Digest{byte(n), 31: byte(n >> 8)} }

// made is a device of so many blocks.
func made(t *testing.T, blocks int) *drum.Drum {
	t.Helper()
	d, e := drum.New(blocks)
	if e != api.OK {
		t.Fatalf("drum.New(%d): %d", blocks, e)
	}
	return d
}

// opened is the vault of a device.
func opened(t *testing.T, d *drum.Drum) *vault.Vault {
	t.Helper()
	v, e := vault.Open(d)
	if e != api.OK || v == nil {
		t.Fatalf("Open: %d", e)
	}
	return v
}

// fresh is an empty device of so many blocks, and its vault.
func fresh(t *testing.T, blocks int) (*drum.Drum, *vault.Vault) {
	t.Helper()
	d := made(t, blocks)
	return d, opened(t, d)
}

// want holds a call's error to be that.
func want(t *testing.T, what string, got, e api.Errno) {
	t.Helper()
	if got != e {
		t.Fatalf("%s: %d, not %d", what, got, e)
	}
}

// wantRefused holds a device to be opened with that error alone.
func wantRefused(t *testing.T, what string, d *drum.Drum, e api.Errno) {
	t.Helper()
	if v, got := vault.Open(d); v != nil || got != e {
		t.Fatalf("%s: %v, %d, not %d", what, v, got, e)
	}
}

// wantBytes holds just those bytes to be kept under a key.
func wantBytes(t *testing.T, v *vault.Vault, k api.Digest, p []byte) {
	t.Helper()
	if got, e := v.Get(k); e != api.OK || !bytes.Equal(got, p) || !v.Has(k) {
		t.Fatalf("under %x: %d bytes, %d, %v, not %d bytes", k[:2], len(got), e, v.Has(k), len(p))
	}
}

// wantNoBytes holds a Get to have that error alone.
func wantNoBytes(t *testing.T, v *vault.Vault, k api.Digest, e api.Errno) {
	t.Helper()
	if got, f := v.Get(k); len(got) != 0 || f != e {
		t.Fatalf("under %x: %d bytes, %d, not %d", k[:2], len(got), f, e)
	}
}

// wantNone holds nothing to be kept under a key.
func wantNone(t *testing.T, v *vault.Vault, k api.Digest) {
	t.Helper()
	wantNoBytes(t, v, k, api.ErrNone)
	if v.Has(k) {
		t.Fatalf("Has %x", k[:2])
	}
}

// wantUsed holds a vault to have so many slots and blocks.
func wantUsed(t *testing.T, v *vault.Vault, many, blocks int) {
	t.Helper()
	if m, b := v.Used(); m != many || b != blocks {
		t.Fatalf("Used: %d, %d, not %d, %d", m, b, many, blocks)
	}
}

// wantKeys holds a vault to have just those keys of a kind.
func wantKeys(t *testing.T, v *vault.Vault, kind int, keys ...api.Digest) {
	t.Helper()
	if got := v.Keys(kind); !slices.Equal(got, keys) {
		t.Fatalf("keys of %d: %x, not %x", kind, got, keys)
	}
}

// wantSteps holds a device to have done so many steps, all of which last.
func wantSteps(t *testing.T, d *drum.Drum, steps int) {
	t.Helper()
	if d.Steps() != steps || len(d.Loose()) != 0 {
		t.Fatalf("%d steps, %v loose, not %d steps", d.Steps(), d.Loose(), steps)
	}
}

// wantDead holds a vault to answer that error, whatever it is asked, and to have nothing.
func wantDead(t *testing.T, v *vault.Vault, e api.Errno, keys ...api.Digest) {
	t.Helper()
	for _, k := range append(keys, api.Digest{}, key(1)) {
		wantNoBytes(t, v, k, e)
		want(t, "Put", v.Put(vault.Work, k, []byte("zoe")), e)
		want(t, "Put of no kind", v.Put(3, k, make([]byte, api.MaxBlob+1)), e)
		want(t, "Drop", v.Drop(k), e)
		if v.Has(k) {
			t.Fatalf("Has %x", k[:2])
		}
	}
	want(t, "Drop of nothing", v.Drop(), e)
	wantUsed(t, v, 0, 0)
	for _, kind := range append(far, vault.Job, vault.Work) {
		wantKeys(t, v, kind)
	}
}

// entry are a slot's bytes, as the chapter lays them.
func entry(kind int, key, sum api.Digest, size, from int) drum.Block {
	var b drum.Block
	b[0] = byte(kind)
	copy(b[1:], key[:])
	copy(b[33:], sum[:])
	binary.LittleEndian.PutUint32(b[65:], uint32(size))
	binary.LittleEndian.PutUint32(b[69:], uint32(from))
	return b
}

// entryOf is the slot of a text that begins at a block.
func entryOf(kind int, key api.Digest, p []byte, from int) drum.Block {
	return entry(kind, key, sha256.Sum256(p), len(p), from)
}

// laid is a device on which somebody else wrote these blocks, and these texts from some blocks on.
func laid(t *testing.T, blocks int, slots map[int]drum.Block, texts map[int][]byte) *drum.Drum {
	t.Helper()
	d := made(t, blocks)
	for from, p := range texts {
		write(t, d, from, p)
	}
	for at, b := range slots {
		want(t, "Write", d.Write(at, b), api.OK)
	}
	want(t, "Sync", d.Sync(), api.OK)
	return d
}

// write writes a text from a block on, as far as the device goes.
func write(t *testing.T, d *drum.Drum, from int, p []byte) {
	t.Helper()
	for i := 0; i < len(p) && from+i/api.BlockSize < d.Blocks(); i += api.BlockSize {
		var b drum.Block
		copy(b[:], p[i:])
		want(t, "Write", d.Write(from+i/api.BlockSize, b), api.OK)
	}
}

// image are all bytes of a device.
func image(t *testing.T, d *drum.Drum) []byte {
	t.Helper()
	var p []byte
	for at := range d.Blocks() {
		b, e := d.Read(at)
		want(t, "Read", e, api.OK)
		p = append(p, b[:]...)
	}
	return p
}
