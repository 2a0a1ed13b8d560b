package stamp_test

import (
	"crypto/sha256"
	"encoding/binary"
	"encoding/hex"
	"math"
	"slices"
	"testing"

	"zoetrope/api"
	"zoetrope/plan"
	"zoetrope/stamp"
)

// The calls, with the signatures that the chapter tells.
var (
	_ func(kind int) string                                                = stamp.Name
	_ func(b []byte) api.Digest                                            = stamp.Job
	_ func(kind, frame int, of ...api.Digest) api.Digest                   = stamp.Key
	_ func(kind, frame int) int                                            = stamp.At
	_ func(job api.Digest, frames int) []stamp.Work                        = stamp.Works
	_ func(l []stamp.Work) plan.Plan                                       = stamp.Plan
	_ stamp.Work                                                           = stamp.Work{Kind: 0, Frame: 0, Key: api.Digest{}, Needs: []int{}}
	_ [stamp.Trace*1000 + stamp.Warp*100 + stamp.Lace*10 + stamp.Plate]int = [123]int{}
	_ [stamp.Kinds]int                                                     = [4]int{}
)

// far are numbers that are no frame's, and no kind's.
var far = []int{-1, -2, -4, -32, 32, 33, 255, 256, 257, 1 << 16, 1<<31 - 1, 1 << 31, -1 << 31, 1 << 32, 1<<32 + 1, -1 << 32, math.MaxInt / 4, math.MaxInt/4 + 1, math.MinInt / 4, math.MinInt/4 - 1, math.MaxInt, math.MaxInt - 1, math.MinInt, math.MinInt + 1}

// draw is a list of numbers without any order in them, the same ones in every run.
type draw uint64

// number is the next of them.
func (d *draw) number() uint64 {
	*d = *d*6364136223846793005 + 1442695040888963407
	return uint64(*d) ^ uint64(*d)>>29
}

// below is the next of them, from 0 on, below n.
func (d *draw) below(n int) int { return int(d.number() >> 32 % uint64(n)) }

// bytes are so many of them.
func (d *draw) bytes(n int) []byte {
	b := make([]byte, n)
	for i := range b {
		b[i] = byte(d.below(256))
	}
	return b
}

// key is any sum.
func (d *draw) key() api.Digest { return api.Digest(d.bytes(32)) }

// wantSum holds a sum to be those digits.
func wantSum(t *testing.T, what string, got api.Digest, want string) {
	t.Helper()
	if hex.EncodeToString(got[:]) != want {
		t.Fatalf("%s: %x, not %s", what, got, want)
	}
}

// jobKey is a job's key by the chapter's words.
func jobKey(b []byte) api.Digest { return sha256.Sum256(append([]byte{'J'}, b...)) }

// workKey is a work's key by the chapter's words.
func workKey(kind, frame int, of ...api.Digest) api.Digest {
	b := binary.LittleEndian.AppendUint32([]byte{'W', byte(kind)}, uint32(frame))
	for _, k := range of {
		b = append(b, k[:]...)
	}
	return sha256.Sum256(b)
}

// P26.1: the names of the kinds, and of no others.
func TestName(t *testing.T) {
	for kind, want := range []string{"trace", "warp", "lace", "plate"} {
		if got := stamp.Name(kind); got != want {
			t.Errorf("%d: %q", kind, got)
		}
	}
	for _, kind := range append([]int{stamp.Kinds, stamp.Kinds + 1, 7, 8}, far...) {
		if got := stamp.Name(kind); got != "" {
			t.Errorf("%d: %q", kind, got)
		}
	}
}

// P26.1: keys of jobs, reckoned by another program.
func TestJobsByAnotherProgram(t *testing.T) {
	all := make([]byte, 256)
	for i := range all {
		all[i] = byte(i)
	}
	wantSum(t, "no bytes", stamp.Job(nil), "6da43b944e494e885e69af021f93c6d9331c78aa228084711429160a5bbd15b5")
	wantSum(t, "no bytes", stamp.Job([]byte{}), "6da43b944e494e885e69af021f93c6d9331c78aa228084711429160a5bbd15b5")
	wantSum(t, "ZOE1", stamp.Job([]byte("ZOE1")), "98ca0918f517eae24b612c0db1e9bbaa3c514c58d90db654501d438f77aa1237")
	wantSum(t, "all bytes", stamp.Job(all), "f547edda3f2bb6c3c581391b686f0f6eb6ce2eafcf0f2ade1031ac267d7c6ef1")
}

// P26.1: keys of jobs of all sizes up to some blocks, and of the largest.
func TestJobs(t *testing.T) {
	d := draw(1)
	for n := range 300 {
		b := d.bytes(n)
		if got := stamp.Job(b); got != jobKey(b) {
			t.Fatalf("%x: %x", b, got)
		}
	}
	for _, n := range []int{api.MaxJob - 1, api.MaxJob, api.MaxJob + 1, 1 << 20} {
		b := d.bytes(n)
		if got := stamp.Job(b); got != jobKey(b) {
			t.Fatalf("%d bytes: %x", n, got)
		}
	}
}

// P26.1: keys of works, reckoned by another program; numbers that are no kind's and no frame's, too.
func TestKeysByAnotherProgram(t *testing.T) {
	zero, one := api.Digest{}, api.Digest{1}
	rows := []struct {
		kind, frame int
		of          []api.Digest
		want        string
	}{
		{0, 0, nil, "44b10b0caed1f663fa154165e7d66f09051155c26c7de89157ecbf2d49b07455"},
		{0, 0, []api.Digest{zero}, "9b31929e7914b7bb970d78ee021ce1bdd80172b204049302c196af64789d287c"},
		{0, 0, []api.Digest{one}, "99c493a563732d1cb46ddf3151754e0e031fd678253142b265377afec41f7076"},
		{1, 2, []api.Digest{one, zero}, "82281ffccef94c26fc59fe9a9f7f7bce7e0d90f16d1de86c94aabfe29e78aecd"},
		{1, 2, []api.Digest{zero, one}, "48209b6bad504b1ba8e4b9667d42d6923fc988493ac86f15d94f223984ef565d"},
		{3, 31, []api.Digest{one}, "da9eb563f4bcb842149c974d5b8ea8adf020390a769993aaf0ef6b4438ddb729"},
		{2, 0x01020304, nil, "109b55308f191c8709a34235dc0220c14b1ec166217d321d3e054b169d3d1eb8"},
		{258, 0x0907060504, []api.Digest{one}, "4397a40a64ef60195f308af86c0c859ee0cc527eaddca77e8ae5cc2a9f12c2d4"},
		{-1, -1, nil, "ab816530585039863a1084350b77467acfe4d2d7d6b733031b05e515cda2703b"},
		{-256, -1 << 32, nil, "44b10b0caed1f663fa154165e7d66f09051155c26c7de89157ecbf2d49b07455"},
		{2, -2, []api.Digest{zero, zero, zero}, "0635ba4c19d33f25275881208fbebd7bce5e1f07f4f7c3696d72cd7ffa485271"},
	}
	for _, row := range rows {
		wantSum(t, "Key", stamp.Key(row.kind, row.frame, row.of...), row.want)
	}
	for _, kind := range far {
		for _, frame := range far {
			if got := stamp.Key(kind, frame, one); got != workKey(kind, frame, one) || got != stamp.Key(kind&255, frame&(1<<32-1), one) {
				t.Fatalf("%d, %d: %x", kind, frame, got)
			}
		}
	}
}

// P26.1: keys of drawn works, of any number of keys.
func TestKeys(t *testing.T) {
	d := draw(2)
	for n := range 300 {
		of := make([]api.Digest, n)
		for i := range of {
			of[i] = d.key()
		}
		kind, frame := int(d.number()), int(d.number())
		if n%2 == 0 {
			kind, frame = d.below(stamp.Kinds), d.below(api.MaxFrames)
		}
		if got := stamp.Key(kind, frame, of...); got != workKey(kind, frame, of...) {
			t.Fatalf("%d, %d, %x: %x", kind, frame, of, got)
		}
	}
}

// P26.1: what a work's key hangs on: each bit of its kind and its frame that counts, and all that it is made of, in order.
func TestKeysApart(t *testing.T) {
	d := draw(3)
	a, b := d.key(), d.key()
	seen := map[api.Digest]int{}
	for i := range 8 {
		seen[stamp.Key(1<<i, 0, a)]++
	}
	for i := range 32 {
		seen[stamp.Key(0, 1<<i, a)]++
	}
	for i := range 256 {
		x := a
		x[i/8] ^= 1 << (i % 8)
		seen[stamp.Key(0, 0, x)]++
	}
	seen[stamp.Key(0, 0)]++
	seen[stamp.Key(0, 0, a)]++
	seen[stamp.Key(0, 0, a, a)]++
	seen[stamp.Key(0, 0, a, b)]++
	seen[stamp.Key(0, 0, b, a)]++
	seen[stamp.Job(a[:])]++
	if len(seen) != 8+32+256+6 {
		t.Errorf("%d keys", len(seen))
	}
	if stamp.Key(256, 1<<32, a) != stamp.Key(0, 0, a) {
		t.Error("bits beyond those that count")
	}
}

// P26.1: where a work stands; nothing of what is no work of a job.
func TestAt(t *testing.T) {
	want := 0
	for frame := range api.MaxFrames {
		for kind := range stamp.Kinds {
			if got := stamp.At(kind, frame); got != want {
				t.Errorf("%d, %d: %d, not %d", kind, frame, got, want)
			}
			want++
		}
		for _, kind := range append([]int{stamp.Kinds, stamp.Kinds + 1, 7}, far...) {
			if got := stamp.At(kind, frame); got != 0 {
				t.Errorf("%d, %d: %d", kind, frame, got)
			}
		}
	}
	for _, frame := range far {
		for _, kind := range append([]int{0, 1, 2, 3, stamp.Kinds}, far...) {
			if got := stamp.At(kind, frame); got != 0 {
				t.Errorf("%d, %d: %d", kind, frame, got)
			}
		}
	}
}

// P26.1: keys that are handed in aren't changed, nor the room behind them.
func TestUnchangedKeys(t *testing.T) {
	d := draw(4)
	of := []api.Digest{d.key(), d.key(), d.key()}
	was := slices.Clone(of)
	want := workKey(1, 2, was[:2]...)
	for range 3 {
		if got := stamp.Key(1, 2, of[:2]...); got != want || !slices.Equal(of, was) {
			t.Fatalf("%x, %x", got, of)
		}
	}
	room := []byte("zoetrope")
	for range 3 {
		if got := stamp.Job(room[:3]); got != jobKey([]byte("zoe")) || string(room) != "zoetrope" {
			t.Fatalf("%x, %s", got, room)
		}
	}
}
