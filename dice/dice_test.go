package dice_test

import (
	"math"
	"slices"
	"testing"

	"zoetrope/api"
	"zoetrope/dice"
)

// The calls, with the signatures that the chapter tells.
var (
	_ func(...uint64) uint64                = dice.Hash
	_ func(dice.Key) *dice.Dice             = dice.New
	_ func(dice.Key, int) uint64            = dice.Key.Bits
	_ func(dice.Key, int) api.Fix           = dice.Key.Unit
	_ func(k dice.Key, dim, n int) int      = dice.Key.Below
	_ func(*dice.Dice) api.Fix              = (*dice.Dice).Next
	_ func(*dice.Dice) int                  = (*dice.Dice).Drawn
	_ func(*dice.Dice, int) api.Errno       = (*dice.Dice).Skip
	_ func(u, v api.Fix) api.Vec            = dice.Globe
	_ func(n api.Vec, u, v api.Fix) api.Vec = dice.Dome
	_ struct {
		Seed                 uint64
		Frame, Pixel, Sample int
	} = dice.Key{}
)

const (
	one  = api.One
	most = api.Most
)

// drawn is what a key draws in a dimension. All numbers stand apart from the program's: they are reckoned by another one.
type drawn struct {
	key  dice.Key
	dim  int
	bits uint64
}

// draws are keys each of whose parts is told once at least, numbers below 0 and at the ends among them.
func draws() []drawn {
	k := dice.Key{Seed: 5, Frame: 1, Pixel: 2, Sample: 3}
	return []drawn{
		{dice.Key{}, 0, 0xdbba78ecc478595c},
		{dice.Key{Seed: 1}, 0, 0x718f356c0050aa44},
		{dice.Key{Frame: 1}, 0, 0xb80c990cecc6b833},
		{dice.Key{Pixel: 1}, 0, 0x38560664d640e0dc},
		{dice.Key{Sample: 1}, 0, 0xc90d158855d0e41d},
		{dice.Key{}, 1, 0xf5c53e2bb850ef4f},
		{dice.Key{Seed: 5}, 0, 0xb630b3d46adb74fe},
		{k, 0, 0x1dd94dca45cb8547},
		{k, 4, 0x948e079d3ecfa407},
		{k, -1, 0xd02a61d04a219621},
		{k, math.MaxInt64, 0x4fc133002b1f6b70},
		{k, math.MinInt64, 0x4b7e6ea71751149a},
		{dice.Key{Seed: 5, Frame: -1, Pixel: 2, Sample: 3}, 0, 0x6eb8821df0284d3a},
		{dice.Key{Seed: 5, Frame: 1, Pixel: -2, Sample: 3}, 0, 0x2151ad5d520efd60},
		{dice.Key{Seed: 5, Frame: 1, Pixel: 2, Sample: -3}, 0, 0xb8aa96642a162604},
		{dice.Key{Seed: math.MaxUint64, Frame: math.MaxInt64, Pixel: math.MinInt64}, 7, 0x3b5db04bb130262f},
	}
}

// P4.1
func TestHash(t *testing.T) {
	const s = 0x9e3779b97f4a7c15
	twenty := make([]uint64, 20)
	for i := range twenty {
		twenty[i] = uint64(i)
	}
	rows := []struct {
		l    []uint64
		want uint64
	}{
		{nil, 0}, {[]uint64{}, 0},
		{[]uint64{0}, 0xdce423fc82c0d5b8}, {[]uint64{1}, 0xfbe7a763b053d14c}, {[]uint64{2}, 0x7740eb31ebd3039a}, {[]uint64{s}, 0x7cf6ee33936f5a32},
		{[]uint64{math.MaxUint64}, 0x7ab40e090f363a7d}, {[]uint64{1 << 63}, 0x85e27aaaac3a243e},
		{[]uint64{0, 0}, 0x7c630a6d6831eed}, {[]uint64{1, 2}, 0xd5357c969f578452}, {[]uint64{2, 1}, 0x5cbacf11465a1d1c}, {[]uint64{math.MaxUint64, math.MaxUint64}, 0xf1c3f4e8bcce6d11},
		{[]uint64{1, 2, 3}, 0xefaf985d7fb9f989}, {make([]uint64, 5), 0xdbba78ecc478595c}, {twenty, 0x5b653423d380a4ee},
	}
	for _, r := range rows {
		if got := dice.Hash(r.l...); got != r.want {
			t.Errorf("Hash(%d) = %x, not %x", r.l, got, r.want)
		}
	}
	if dice.Hash() != 0 || dice.Hash(1, 2, 3) != 0xefaf985d7fb9f989 {
		t.Error("Hash of numbers one by one")
	}
}

// R3: the list that is handed in, and the room behind its end, stay.
func TestHashLeavesItsList(t *testing.T) {
	room := []uint64{1, 2, 3, 4, 5}
	dice.Hash(room[:3]...)
	if !slices.Equal(room, []uint64{1, 2, 3, 4, 5}) {
		t.Errorf("Hash made %d of its list", room)
	}
}

// P4.1
func TestBits(t *testing.T) {
	for _, r := range draws() {
		if got := r.key.Bits(r.dim); got != r.bits {
			t.Errorf("Bits(%d) of %+v = %x, not %x", r.dim, r.key, got, r.bits)
		}
		k := r.key
		if got := dice.Hash(k.Seed, uint64(k.Frame), uint64(k.Pixel), uint64(k.Sample), uint64(r.dim)); got != r.bits {
			t.Errorf("Hash of %+v and %d = %x, not %x", k, r.dim, got, r.bits)
		}
	}
}

// P4.1
func TestUnit(t *testing.T) {
	for _, r := range draws() {
		if got := r.key.Unit(r.dim); got != api.Fix(r.bits>>48) {
			t.Errorf("Unit(%d) of %+v = %d, not %d", r.dim, r.key, got, r.bits>>48)
		}
	}
	if got := (dice.Key{}).Unit(0); got != 56250 {
		t.Errorf("Unit(0) of the first key = %d, not 56250", got)
	}
	var sum api.Fix
	for dim := range 4096 {
		u := (dice.Key{Seed: 9}).Unit(dim)
		if u < 0 || u >= one {
			t.Fatalf("Unit(%d) = %d", dim, u)
		}
		sum += u
	}
	if mean := sum / 4096; mean < 31000 || mean > 34500 {
		t.Errorf("what is drawn is %d units on the whole", mean)
	}
}

// P4.1
func TestBelow(t *testing.T) {
	k := dice.Key{Seed: 5, Frame: 1, Pixel: 2, Sample: 3}
	rows := []struct{ dim, n, want int }{
		{0, 1, 0}, {0, 2, 1}, {0, 3, 2}, {0, 10, 5}, {0, 1000003, 846876}, {0, math.MaxInt64, 1075417914097910435},
		{4, 2, 1}, {4, 3, 1}, {4, 10, 9}, {4, 1000003, 217196}, {4, math.MaxInt64, 5352250868125651459},
		{-1, 2, 0}, {-1, 3, 2}, {-1, 10, 2}, {-1, 1000003, 747779}, {-1, math.MaxInt64, 7499954528067832592},
		{math.MaxInt64, 10, 8}, {math.MinInt64, 10, 3},
		{4, 0, 0}, {4, -1, 0}, {4, -10, 0}, {4, math.MinInt64, 0}, {-1, 0, 0}, {-1, -3, 0},
	}
	for _, r := range rows {
		if got := k.Below(r.dim, r.n); got != r.want {
			t.Errorf("Below(%d, %d) = %d, not %d", r.dim, r.n, got, r.want)
		}
	}
	for _, r := range draws() {
		for _, n := range []int{1, 2, 3, 7, 100, 1 << 40, math.MaxInt64} {
			if got, want := r.key.Below(r.dim, n), int(r.bits/2%uint64(n)); got != want {
				t.Errorf("Below(%d, %d) of %+v = %d, not %d", r.dim, n, r.key, got, want)
			}
		}
	}
}

// isAt tells whether the next dimension of dice is what it must be.
func isAt(t *testing.T, d *dice.Dice, want int) {
	t.Helper()
	if got := d.Drawn(); got != want {
		t.Errorf("the next dimension is %d, not %d", got, want)
	}
}

// draw tells whether the dice draw what their key draws in a dimension, and go on to the next one.
func draw(t *testing.T, d *dice.Dice, k dice.Key, dim int) {
	t.Helper()
	isAt(t, d, dim)
	if got, want := d.Next(), k.Unit(dim); got != want {
		t.Errorf("Next of %+v = %d, not %d, its Unit(%d)", k, got, want, dim)
	}
	isAt(t, d, dim+1)
}

// P4.2
func TestNext(t *testing.T) {
	for _, r := range draws() {
		d := dice.New(r.key)
		for dim := range 20 {
			draw(t, d, r.key, dim)
		}
	}
	d := dice.New(dice.Key{Seed: 5, Frame: 1, Pixel: 2, Sample: 3})
	if a, b := d.Next(), d.Next(); a != 0x1dd9 || b == a {
		t.Errorf("the first ones that are drawn are %d, %d", a, b)
	}
}

// skip tells whether Skip answers what it must.
func skip(t *testing.T, d *dice.Dice, dim int, want api.Errno) {
	t.Helper()
	if got := d.Skip(dim); got != want {
		t.Errorf("Skip(%d) = %d, not %d", dim, got, want)
	}
}

// P4.2
func TestSkip(t *testing.T) {
	k := dice.Key{Seed: 5, Frame: 1, Pixel: 2, Sample: 3}
	d := dice.New(k)
	skip(t, d, 0, api.OK)
	draw(t, d, k, 0)
	skip(t, d, 1, api.OK)
	draw(t, d, k, 1)
	skip(t, d, 7, api.OK)
	skip(t, d, 7, api.OK)
	draw(t, d, k, 7)
	skip(t, d, 9, api.OK)
	skip(t, d, 1<<40, api.OK)
	draw(t, d, k, 1<<40)
	skip(t, d, math.MaxInt, api.OK)
	isAt(t, d, math.MaxInt)
}

// P4.2: a dimension below the next one is refused, and nothing has changed.
func TestSkipBack(t *testing.T) {
	k := dice.Key{Seed: 5}
	d := dice.New(k)
	skip(t, d, -1, api.ErrArg)
	skip(t, d, math.MinInt, api.ErrArg)
	draw(t, d, k, 0)
	skip(t, d, 0, api.ErrArg)
	skip(t, d, -1, api.ErrArg)
	draw(t, d, k, 1)
	skip(t, d, 100, api.OK)
	skip(t, d, 99, api.ErrArg)
	skip(t, d, 2, api.ErrArg)
	draw(t, d, k, 100)
	skip(t, d, 100, api.ErrArg)
	isAt(t, d, 101)
}

// R6: nothing is reckoned beyond the end of an int.
func TestNextAtTheEnd(t *testing.T) {
	k := dice.Key{Seed: 5}
	d := dice.New(k)
	skip(t, d, math.MaxInt-1, api.OK)
	draw(t, d, k, math.MaxInt-1)
	for range 2 {
		if got, want := d.Next(), k.Unit(math.MaxInt); got != want {
			t.Errorf("Next = %d, not %d", got, want)
		}
		isAt(t, d, math.MaxInt)
	}
}

// P4.2, R1
func TestNilDice(t *testing.T) {
	var d *dice.Dice
	for range 2 {
		if a, n := d.Next(), d.Drawn(); a != 0 || n != 0 {
			t.Errorf("nil dice: Next = %d, Drawn = %d", a, n)
		}
		skip(t, d, 0, api.ErrNil)
		skip(t, d, 7, api.ErrNil)
		skip(t, d, -1, api.ErrNil)
	}
}

// P4.2: dice have all that keys have, wherever they are.
func TestDiceHaveAKey(t *testing.T) {
	k := dice.Key{Seed: 5, Frame: 1, Pixel: 2, Sample: 3}
	d := dice.New(k)
	for range 3 {
		if d.Key != k || d.Seed != 5 || d.Frame != 1 || d.Pixel != 2 || d.Sample != 3 {
			t.Errorf("the dice's key is %+v", d.Key)
		}
		if d.Bits(4) != k.Bits(4) || d.Unit(4) != k.Unit(4) || d.Below(4, 1000) != k.Below(4, 1000) || d.Below(4, 0) != 0 {
			t.Error("the dice's calls aren't their key's")
		}
		d.Next()
	}
	isAt(t, d, 3)
}

// P4.4
func TestDrawnInAnyOrder(t *testing.T) {
	k := dice.Key{Seed: 77, Frame: 3, Pixel: 1000, Sample: 9}
	const n = 64
	var units [n]api.Fix
	d := dice.New(k)
	for dim := range n {
		units[dim] = d.Next()
	}
	for dim := n - 1; dim >= 0; dim-- {
		if k.Unit(dim) != units[dim] || d.Unit(dim) != units[dim] || k.Unit(dim) != units[dim] {
			t.Errorf("Unit(%d) isn't what was drawn", dim)
		}
	}
	other := dice.New(dice.Key{Seed: 78})
	again := dice.New(k)
	for dim := 0; dim < n; dim += 3 {
		again.Skip(dim)
		other.Next()
		again.Below(5, 10)
		if got := again.Next(); got != units[dim] {
			t.Errorf("Next of dimension %d is %d, then %d", dim, units[dim], got)
		}
	}
	draw(t, d, k, n)
}

// P4.4: what is drawn for one key, or in one dimension, isn't what is drawn for the others.
func TestDrawnForItsKeyAlone(t *testing.T) {
	seen := map[uint64]bool{}
	count := 0
	for seed := range uint64(4) {
		for i := range 4 * 4 * 4 * 4 {
			k := dice.Key{Seed: seed, Frame: i % 4, Pixel: i / 4 % 4, Sample: i / 16 % 4}
			seen[k.Bits(i/64)] = true
			count++
		}
	}
	if len(seen) != count {
		t.Errorf("%d keys and dimensions draw %d numbers", count, len(seen))
	}
}
