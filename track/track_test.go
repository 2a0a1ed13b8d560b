package track_test

import (
	"maps"
	"math"
	"slices"
	"testing"

	"zoetrope/api"
	"zoetrope/track"
	"zoetrope/vec"
)

// The calls, with the signatures that the chapter tells.
var (
	_ func(track.Track) bool                           = track.Right
	_ func(track.Track, api.Fix) int                   = track.Track.Place
	_ func(track.Track, api.Fix) api.Vec               = track.Track.At
	_ func(api.Vec) track.Track                        = track.Still
	_ func(int, ...track.Key) (track.Track, api.Errno) = track.Make
	_ struct {
		Time  api.Fix
		Value api.Vec
	} = track.Key{}
	_ struct {
		Way  int
		Keys []track.Key
	} = track.Track{}
	_ [3]struct{}            = [track.Ease + 1]struct{}{track.Step: {}, track.Line: {}}
	_ [32 * api.One]struct{} = [track.Ends]struct{}{}
)

const (
	one  = api.One
	most = api.Most
	ends = track.Ends
)

// v is a point of three numbers, in units.
func v(x, y, z api.Fix) api.Vec { return api.Vec{X: x, Y: y, Z: z} }

// key is a key whose value tells its number.
func key(time, n api.Fix) track.Key { return track.Key{Time: time, Value: v(n, -n, 2*n)} }

// keys are some keys at rising times, from the first one on, by a step.
func keys(many int, from, step api.Fix) []track.Key {
	var l []track.Key
	for i := range api.Fix(many) {
		l = append(l, key(from+i*step, i+1))
	}
	return l
}

// of is a track of a way and some keys, as they are.
func of(way int, l ...track.Key) track.Track { return track.Track{Way: way, Keys: l} }

// ways are all ways that there are.
func ways() []int { return []int{track.Step, track.Line, track.Ease} }

// wrongWays are whole numbers that name no way.
func wrongWays() []int { return []int{-1, 3, 4, 9, 256, math.MaxInt, math.MinInt} }

// rightKeys are lists of keys that tracks may have.
func rightKeys() [][]track.Key {
	return [][]track.Key{
		{key(0, 1)}, {key(ends, 1)}, {key(5, 0)}, {key(0, 1), key(1, 2)}, {key(ends-1, 1), key(ends, 2)}, {key(0, 1), key(ends, 2)},
		keys(15, 0, 1), keys(16, 0, 1), keys(16, 7, one+3), keys(16, ends-15, 1), keys(16, ends-30*one, 2*one),
		{{Time: one, Value: v(most, -most, most)}, {Time: 2 * one, Value: v(-most, most, -most)}},
	}
}

// wrongKeys are lists of keys that no track may have.
func wrongKeys() map[string][]track.Key {
	return map[string][]track.Key{
		"nil": nil, "none": {}, "17": keys(17, 0, 1), "18": keys(18, 0, one), "many": keys(1000, 0, 1),
		"a time below 0": {key(-1, 1)}, "a time below 0, the first one": {key(-1, 1), key(0, 2)}, "a time far below": {key(math.MinInt64, 1), key(0, 2)},
		"a time behind the end": {key(ends+1, 1)}, "a time behind the end, the last one": {key(0, 1), key(ends+1, 2)}, "a time far behind": {key(0, 1), key(math.MaxInt64, 2)},
		"X below": {{Value: v(-most-1, 0, 0)}}, "X beyond": {{Value: v(most+1, 0, 0)}}, "X far beyond": {{Value: v(math.MaxInt64, 0, 0)}},
		"Y below": {{Value: v(0, -most-1, 0)}}, "Y beyond": {{Value: v(0, most+1, 0)}}, "Y far below": {{Value: v(0, math.MinInt64, 0)}},
		"Z below": {{Value: v(0, 0, -most-1)}}, "Z beyond": {{Value: v(0, 0, most+1)}}, "Z far below": {{Value: v(0, 0, math.MinInt64)}},
		"a value beyond, the last one": append(keys(3, 0, one), track.Key{Time: 3 * one, Value: v(0, most+1, 0)}),
	}
}

// unsorted are lists of keys that are no track's, for their times don't rise, but of which Make makes one.
func unsorted() [][]track.Key {
	return [][]track.Key{
		{key(1, 1), key(0, 2)}, {key(0, 1), key(0, 2)}, {key(0, 1), key(0, 1)}, {key(0, 1), key(2, 2), key(1, 3)}, {key(0, 1), key(1, 2), key(1, 3), key(2, 4)},
		{key(0, 1), key(1, 2), key(ends, 3), key(ends, 4)}, append(keys(15, 1, 1), key(0, 0)),
	}
}

// isTrack tells whether a track is of a way and of some keys.
func isTrack(t *testing.T, name string, got track.Track, way int, l []track.Key) {
	t.Helper()
	if got.Way != way || !slices.Equal(got.Keys, l) {
		t.Errorf("%s = %v, not %v", name, got, of(way, l...))
	}
}

// P6.1
func TestRight(t *testing.T) {
	for _, way := range ways() {
		for _, l := range rightKeys() {
			if !track.Right(of(way, l...)) {
				t.Errorf("%v is no track", of(way, l...))
			}
		}
		for name, l := range wrongKeys() {
			if track.Right(of(way, l...)) {
				t.Errorf("way %d, %s: is a track", way, name)
			}
		}
		for _, l := range unsorted() {
			if track.Right(of(way, l...)) {
				t.Errorf("%v is a track", of(way, l...))
			}
		}
	}
	for _, way := range wrongWays() {
		for _, l := range rightKeys() {
			if track.Right(of(way, l...)) {
				t.Errorf("%v is a track", of(way, l...))
			}
		}
	}
	if track.Right(track.Track{}) {
		t.Error("an empty one is a track")
	}
}

// P6.1, R3: what is asked stays as it is, the room behind its end too.
func TestAskedTracksStay(t *testing.T) {
	room := append(keys(5, 1, one), key(0, 9))
	kept := slices.Clone(room)
	x := of(track.Ease, room[:4]...)
	track.Right(x)
	x.Place(2 * one)
	x.At(2 * one)
	if !slices.Equal(room, kept) {
		t.Errorf("the keys are now %v", room)
	}
}

// P6.1
func TestPlace(t *testing.T) {
	for _, way := range ways() {
		for _, l := range rightKeys() {
			x := of(way, l...)
			for i, k := range l {
				isPlace(t, x, k.Time-1, placeOf(l, k.Time-1))
				isPlace(t, x, k.Time, i)
				isPlace(t, x, k.Time+1, placeOf(l, k.Time+1))
			}
			isPlace(t, x, math.MinInt64, -1)
			isPlace(t, x, -1, -1)
			isPlace(t, x, math.MaxInt64, len(l)-1)
		}
	}
}

// isPlace tells whether Place answers what it must.
func isPlace(t *testing.T, x track.Track, time api.Fix, want int) {
	t.Helper()
	if got := x.Place(time); got != want {
		t.Errorf("Place(%d) of %v = %d, not %d", time, x, got, want)
	}
}

// placeOf is how many keys aren't behind a time, less one: of rising times that is the last one's place.
func placeOf(l []track.Key, time api.Fix) int {
	n := 0
	for _, k := range l {
		if k.Time <= time {
			n++
		}
	}
	return n - 1
}

// P6.1: the values are reckoned apart from the program.
func TestAt(t *testing.T) {
	a, b, c, d := v(0, 10*one, -7), v(8*one, -10*one, -6), v(8*one, 5, 100), v(-most, most, 0)
	l := []track.Key{{Time: one, Value: a}, {Time: 3 * one, Value: b}, {Time: 3*one + 3, Value: c}, {Time: 10 * one, Value: d}}
	rows := []struct {
		time             api.Fix
		step, line, ease api.Vec
	}{
		{math.MinInt64, a, a, a}, {-1, a, a, a}, {0, a, a, a}, {one - 1, a, a, a}, {one, a, a, a}, {one + 1, a, a, a},
		{one + one/2, a, v(131072, 327680, -7), v(81920, 450560, -7)}, {2 * one, a, v(4*one, 0, -7), v(4*one, 0, -7)}, {3*one - 1, a, v(524280, -655340, -7), v(524280, -655340, -7)},
		{3 * one, b, b, b}, {3*one + 1, b, v(8*one, -436909, 29), v(8*one, -485469, 21)}, {3*one + 2, b, v(8*one, -218457, 64), v(8*one, -169927, 72)},
		{3*one + 3, c, c, c}, {5 * one, c, v(-613173536, 613548035, 71), v(-425235952, 425656324, 80)}, {10*one - 1, c, v(-2147450872, 2147450880, 0), v(-2147450872, 2147450880, 0)},
		{10 * one, d, d, d}, {10*one + 1, d, d, d}, {ends, d, d, d}, {math.MaxInt64, d, d, d},
	}
	for _, r := range rows {
		isAt(t, of(track.Step, l...), r.time, r.step)
		isAt(t, of(track.Line, l...), r.time, r.line)
		isAt(t, of(track.Ease, l...), r.time, r.ease)
	}
}

// isAt tells whether At answers what it must.
func isAt(t *testing.T, x track.Track, time api.Fix, want api.Vec) {
	t.Helper()
	if got := x.At(time); got != want {
		t.Errorf("At(%d) of %v = %v, not %v", time, x, got, want)
	}
}

// P6.1: one key alone stays.
func TestAtOfOneKey(t *testing.T) {
	for _, way := range ways() {
		for _, at := range []api.Fix{0, 5, one, ends} {
			for _, time := range []api.Fix{math.MinInt64, -1, 0, 4, 5, 6, one, ends - 1, ends, ends + 1, math.MaxInt64} {
				isAt(t, of(way, key(at, 77)), time, v(77, -77, 154))
			}
		}
	}
}

// P6.1: what is no track is zero, whenever.
func TestAtOfNoTrack(t *testing.T) {
	times := []api.Fix{math.MinInt64, -1, 0, 1, one, ends, math.MaxInt64}
	for _, time := range times {
		for _, way := range ways() {
			for _, l := range wrongKeys() {
				isAt(t, of(way, l...), time, api.Vec{})
			}
			for _, l := range unsorted() {
				isAt(t, of(way, l...), time, api.Vec{})
			}
		}
		for _, way := range wrongWays() {
			isAt(t, of(way, keys(3, 0, one)...), time, api.Vec{})
		}
	}
}

// R1: the place of what is no track may be any, but it is told.
func TestPlaceOfNoTrack(t *testing.T) {
	for _, time := range []api.Fix{math.MinInt64, -1, 0, one, math.MaxInt64} {
		for _, l := range append(unsorted(), slices.Collect(maps.Values(wrongKeys()))...) {
			for _, way := range append(wrongWays(), ways()...) {
				of(way, l...).Place(time)
			}
		}
	}
}

// P6.2
func TestStill(t *testing.T) {
	for _, a := range []api.Vec{{}, v(1, -2, 3), v(one, 2*one, -3*one), v(most, -most, most)} {
		x := track.Still(a)
		isTrack(t, "Still", x, track.Step, []track.Key{{Time: 0, Value: a}})
		if !track.Right(x) {
			t.Errorf("Still(%v) is no track", a)
		}
		for _, time := range []api.Fix{math.MinInt64, -1, 0, 1, one, ends, math.MaxInt64} {
			isAt(t, x, time, a)
		}
	}
}

// R3: what Still hands out is new memory.
func TestStillIsNew(t *testing.T) {
	x := track.Still(v(1, 2, 3))
	x.Keys[0] = key(5, 5)
	isTrack(t, "Still", track.Still(v(1, 2, 3)), track.Step, []track.Key{{Value: v(1, 2, 3)}})
}

// made is what Make makes, if it must.
func made(t *testing.T, way int, l ...track.Key) track.Track {
	t.Helper()
	x, e := track.Make(way, l...)
	if e != api.OK {
		t.Errorf("Make(%d, %v) = %d", way, l, e)
	}
	return x
}

// P6.2
func TestMake(t *testing.T) {
	for _, way := range ways() {
		for _, l := range rightKeys() {
			isTrack(t, "Make", made(t, way, l...), way, l)
			back := slices.Clone(l)
			slices.Reverse(back)
			isTrack(t, "Make of keys turned round", made(t, way, back...), way, l)
			far := append(slices.Clone(l[len(l)/2:]), l[:len(l)/2]...)
			isTrack(t, "Make of keys in two halves", made(t, way, far...), way, l)
		}
	}
}

// P6.2: of several of one time the last one that is handed in stays.
func TestMakeOfOneTime(t *testing.T) {
	rows := []struct{ l, want []track.Key }{
		{[]track.Key{key(0, 1), key(0, 2)}, []track.Key{key(0, 2)}},
		{[]track.Key{key(0, 2), key(0, 1)}, []track.Key{key(0, 1)}},
		{[]track.Key{key(5, 1), key(5, 2), key(5, 3), key(5, 2)}, []track.Key{key(5, 2)}},
		{[]track.Key{key(1, 1), key(0, 2), key(1, 3)}, []track.Key{key(0, 2), key(1, 3)}},
		{[]track.Key{key(2, 1), key(1, 2), key(2, 3), key(0, 4), key(1, 5), key(0, 6)}, []track.Key{key(0, 6), key(1, 5), key(2, 3)}},
		{[]track.Key{key(ends, 1), key(0, 2), key(ends, 3), key(0, 4), key(ends, 5)}, []track.Key{key(0, 4), key(ends, 5)}},
	}
	for _, r := range rows {
		for _, way := range ways() {
			isTrack(t, "Make", made(t, way, r.l...), way, r.want)
		}
	}
	// So many that no sort of few keys tells: each time comes again and again.
	var l []track.Key
	for i := range api.Fix(1000) {
		l = append(l, key(i*7%16, i))
	}
	want := make([]track.Key, 16)
	for _, k := range l {
		want[k.Time] = k
	}
	isTrack(t, "Make of many", made(t, track.Line, l...), track.Line, want)
}

// P6.2: what counts is what stays: a key that gives way to another one may be any, and isn't counted.
func TestMakeOfWhatStays(t *testing.T) {
	wrong := track.Key{Time: 3, Value: v(most+1, 0, 0)}
	isTrack(t, "Make", made(t, track.Line, wrong, key(3, 1)), track.Line, []track.Key{key(3, 1)})
	full := keys(16, 0, 1)
	isTrack(t, "Make of 17, two of one time", made(t, track.Ease, append(slices.Clone(full), key(15, 16))...), track.Ease, full)
	isNone(t, "the wrong one stays", track.Line, key(3, 1), wrong)
}

// isNone tells whether Make refuses what no track comes of.
func isNone(t *testing.T, name string, way int, l ...track.Key) {
	t.Helper()
	x, e := track.Make(way, l...)
	if e != api.ErrTrack || x.Way != 0 || len(x.Keys) != 0 {
		t.Errorf("Make, %s: %v, %d", name, x, e)
	}
}

// P6.2, R2
func TestMakeOfNoTrack(t *testing.T) {
	for _, way := range ways() {
		for name, l := range wrongKeys() {
			isNone(t, name, way, l...)
			back := slices.Clone(l)
			slices.Reverse(back)
			isNone(t, name+", turned round", way, back...)
		}
	}
	for _, way := range wrongWays() {
		isNone(t, "a way that isn't", way)
		for _, l := range append(rightKeys(), unsorted()...) {
			isNone(t, "a way that isn't", way, l...)
		}
	}
}

// R3: the list that is handed in, and the room behind its end, stay; what is handed out is new memory, its spare room too.
func TestMakeKeepsNothing(t *testing.T) {
	room := []track.Key{key(3, 1), key(1, 2), key(3, 3), key(2, 4), key(0, 5), key(9, 6)}
	kept := slices.Clone(room)
	x := made(t, track.Line, room[:4]...)
	want := []track.Key{key(1, 2), key(2, 4), key(3, 3)}
	isTrack(t, "Make", x, track.Line, want)
	whole := x.Keys[:cap(x.Keys)]
	for i := range whole {
		whole[i] = key(one, 99)
	}
	if !slices.Equal(room, kept) {
		t.Errorf("the list is now %v", room)
	}
	again := made(t, track.Line, room[:4]...)
	for i := range room {
		room[i] = key(2*one, 88)
	}
	isTrack(t, "Make", again, track.Line, want)
}

// moving are tracks of all ways, with jumps up and down, to the span's ends too.
func moving() []track.Track {
	var all []track.Track
	for _, way := range ways() {
		for _, l := range rightKeys() {
			all = append(all, of(way, l...))
		}
		var l []track.Key
		state := uint64(1)
		for i := range api.Fix(16) {
			state = state*6364136223846793005 + 1442695040888963407
			n := api.Fix(int64(state)>>32) >> (2 * i % 32)
			l = append(l, track.Key{Time: 2*i*one + n&255, Value: v(n, -n/3, n/7)})
		}
		all = append(all, of(way, l...))
	}
	return all
}

// P6.3
func TestAtItsKeys(t *testing.T) {
	for _, x := range moving() {
		for _, k := range x.Keys {
			isAt(t, x, k.Time, k.Value)
		}
	}
}

// P6.3
func TestAtLiesBetween(t *testing.T) {
	lies := func(n, a, b api.Fix) bool { return min(a, b) <= n && n <= max(a, b) }
	for _, x := range moving() {
		for i, k := range x.Keys[1:] {
			a, b := x.Keys[i], k
			step := max(1, (b.Time-a.Time)/500)
			for time := a.Time; time <= b.Time; time += step {
				got := x.At(time)
				if !lies(got.X, a.Value.X, b.Value.X) || !lies(got.Y, a.Value.Y, b.Value.Y) || !lies(got.Z, a.Value.Z, b.Value.Z) {
					t.Fatalf("At(%d) of %v = %v", time, x, got)
				}
			}
		}
	}
}

// P6.1: Line goes on as its time does, Ease slowly at its ends; each from key to key, by the share of the time.
func TestWaysGoOn(t *testing.T) {
	l := []track.Key{{Time: 2 * one, Value: v(0, 0, 0)}, {Time: 6 * one, Value: v(one, -one, 4*one)}, {Time: 7 * one, Value: v(one, -one, 4*one)}}
	for time := 2 * one; time <= 6*one; time += 64 {
		part := (time - 2*one) / 4
		isAt(t, of(track.Step, l...), time, l[min(part/one, 1)].Value)
		isAt(t, of(track.Line, l...), time, vec.Mix(l[0].Value, l[1].Value, part))
		ease := part * part / one * (3*one - 2*part) / one
		isAt(t, of(track.Ease, l...), time, vec.Mix(l[0].Value, l[1].Value, ease))
	}
}
