package stamp_test

import (
	"crypto/sha256"
	"math"
	"slices"
	"testing"

	"zoetrope/api"
	"zoetrope/plan"
	"zoetrope/stamp"
)

// wantNeeds holds a list to be such a one.
func wantNeeds(t *testing.T, what string, got, want []int) {
	t.Helper()
	if !slices.Equal(got, want) {
		t.Fatalf("%s: %v, not %v", what, got, want)
	}
}

// like tells whether two works are alike.
func like(a, b stamp.Work) bool {
	return a.Kind == b.Kind && a.Frame == b.Frame && a.Key == b.Key && slices.Equal(a.Needs, b.Needs)
}

// P26.2: the works of three frames, reckoned by another program; those of the frame 1 are the chapter's example.
func TestWorksByAnotherProgram(t *testing.T) {
	rows := []struct {
		kind, frame int
		key         string
		needs       []int
	}{
		{0, 0, "d53283d361fd5d56e9ed00f60926de62a0b75d20cc386041dad998ceed77c9a0", nil},
		{1, 0, "d8ffc3fb9e94dd154ee66bc686ecbdbbc792ebbd6161b243b30d90ae7c91fc0c", []int{0}},
		{2, 0, "e212e24e432cd2ce055fc42ed696086c1aff473e7b3b4cb1808514c62ae08ce7", []int{0, 1}},
		{3, 0, "6029b6890bd7cd4ee38183e1e99cf20b933a5e5f6cfd81db001295b782304de4", []int{2}},
		{0, 1, "a2c64e20bde2f8c2501a41c7cbe806ea19c65090cc95a29281f4fdadc80e16c7", nil},
		{1, 1, "6cc86adc4a2c0bab9b963a2f5a4b5e484cbb3e6c21e20a1710f07ce8b3e9b90c", []int{4, 0, 1}},
		{2, 1, "fd3e71420b88acf40bde9fdeacc3c96a939891739952289fa8f66d0a483eb241", []int{4, 5}},
		{3, 1, "ec8083a380175f0a3200b29e0513e4d172ca8f1208bb7fd83dd391af58bd777b", []int{6}},
		{0, 2, "548d0d1559577e76dec641172a11d389ec6fe1ca5e395cde8672b28b45b4abfe", nil},
		{1, 2, "dd1b650287c2ce2818d31dd1700b02037bc03fd4260827a52d1c3405ef1b006b", []int{8, 4, 5}},
		{2, 2, "d036f45e77dbaf142d3c67f4621797236c2a4bb8ee076494f80d632690e48f35", []int{8, 9}},
		{3, 2, "61edc08a7cd6741b077f1594691b0568c9faf950f57990c42f8205b4da9ece18", []int{10}},
	}
	l := stamp.Works(stamp.Job([]byte("zoe")), 3)
	if len(l) != len(rows) {
		t.Fatalf("%d works", len(l))
	}
	for i, row := range rows {
		if l[i].Kind != row.kind || l[i].Frame != row.frame {
			t.Errorf("%d: %d, %d", i, l[i].Kind, l[i].Frame)
		}
		wantSum(t, "a work's key", l[i].Key, row.key)
		wantNeeds(t, "a work's needs", l[i].Needs, row.needs)
	}
}

// P26.2: all works of a job of as many frames as may be, reckoned by another program.
func TestMostWorksByAnotherProgram(t *testing.T) {
	l := stamp.Works(stamp.Job([]byte("zoe")), api.MaxFrames)
	if len(l) != stamp.Kinds*api.MaxFrames {
		t.Fatalf("%d works", len(l))
	}
	var all []byte
	for _, w := range l {
		all = append(all, w.Key[:]...)
	}
	wantSum(t, "all keys", sha256.Sum256(all), "db2cbe2d15f9f45a6d4404c3486f78df256aed98819a2752b48ca24eb97b8abb")
	wantSum(t, "the last key", l[len(l)-1].Key, "945655e7128fb2f78cf15691859430294cd5ad9893b3f83c6d450be99dad8698")
}

// byWords are the works of a job as the chapter's words tell them.
func byWords(job api.Digest, frames int) []stamp.Work {
	var l []stamp.Work
	for f := range frames {
		trace := stamp.Work{Kind: 0, Frame: f, Key: workKey(0, f, job)}
		warp := stamp.Work{Kind: 1, Frame: f, Key: workKey(1, f, trace.Key), Needs: []int{4 * f}}
		if f > 0 {
			ahead := l[4*f-4:]
			warp.Key = workKey(1, f, trace.Key, ahead[0].Key, ahead[1].Key)
			warp.Needs = []int{4 * f, 4*f - 4, 4*f - 3}
		}
		lace := stamp.Work{Kind: 2, Frame: f, Key: workKey(2, f, trace.Key, warp.Key), Needs: []int{4 * f, 4*f + 1}}
		plate := stamp.Work{Kind: 3, Frame: f, Key: workKey(3, f, lace.Key), Needs: []int{4*f + 2}}
		l = append(l, trace, warp, lace, plate)
	}
	return l
}

// P26.2: the works of drawn jobs of all numbers of frames, by the chapter's words.
func TestWorksByWords(t *testing.T) {
	d := draw(5)
	for frames := range api.MaxFrames + 1 {
		for _, job := range []api.Digest{{}, d.key(), stamp.Job(d.bytes(frames))} {
			if got := stamp.Works(job, frames); !slices.EqualFunc(got, byWords(job, frames), like) {
				t.Fatalf("%x, %d: %v", job, frames, got)
			}
		}
	}
}

// P26.2: numbers of frames that no job has.
func TestOtherFrames(t *testing.T) {
	job := stamp.Job([]byte("zoe"))
	for _, frames := range []int{0, -1, -2, -32, -1 << 31, -1 << 32, -1<<32 + 1, math.MinInt, math.MinInt + 1} {
		if got := stamp.Works(job, frames); len(got) != 0 {
			t.Errorf("%d: %d works", frames, len(got))
		}
	}
	most := byWords(job, api.MaxFrames)
	for _, frames := range []int{32, 33, 34, 64, 1 << 16, 1 << 31, 1 << 32, 1<<32 + 1, math.MaxInt / 4, math.MaxInt/4 + 1, math.MaxInt} {
		if got := stamp.Works(job, frames); !slices.EqualFunc(got, most, like) {
			t.Errorf("%d: %d works", frames, len(got))
		}
	}
}

// P26.1, P26.2: each work stands where At tells, under the key that Key tells of its job's key, or of those of what it needs.
func TestWhereAndUnderWhichKey(t *testing.T) {
	d := draw(6)
	job := d.key()
	l := stamp.Works(job, api.MaxFrames)
	for i, w := range l {
		if stamp.At(w.Kind, w.Frame) != i {
			t.Errorf("%d: %d, %d", i, w.Kind, w.Frame)
		}
		var of []api.Digest
		for _, need := range w.Needs {
			of = append(of, l[need].Key)
		}
		if w.Kind == stamp.Trace {
			of = append(of, job)
		}
		if w.Key != stamp.Key(w.Kind, w.Frame, of...) {
			t.Errorf("%d: %x", i, w.Key)
		}
	}
}

// P26.2: a job of fewer frames has the first works of one of more; all keys are unlike, and those of another job, too.
func TestWorksApart(t *testing.T) {
	d := draw(7)
	most := stamp.Works(d.key(), api.MaxFrames)
	other := stamp.Works(d.key(), api.MaxFrames)
	seen := map[api.Digest]int{}
	for i := range most {
		seen[most[i].Key]++
		seen[other[i].Key]++
	}
	if len(seen) != 2*4*api.MaxFrames {
		t.Errorf("%d keys", len(seen))
	}
	d = draw(7)
	job := d.key()
	for frames := range api.MaxFrames {
		if got := stamp.Works(job, frames); !slices.EqualFunc(got, most[:4*frames], like) {
			t.Errorf("%d frames: %v", frames, got)
		}
	}
}

// P26.2: the plan of any works, whether or not they are a job's.
func TestPlan(t *testing.T) {
	if p := stamp.Plan(nil); len(p) != 0 {
		t.Errorf("%v", p)
	}
	if p := stamp.Plan([]stamp.Work{}); len(p) != 0 {
		t.Errorf("%v", p)
	}
	d := draw(8)
	for n := range 300 {
		l := make([]stamp.Work, n)
		for i := range l {
			l[i] = stamp.Work{Kind: d.below(9), Frame: d.below(9), Key: d.key()}
			for range d.below(5) {
				l[i].Needs = append(l[i].Needs, []int{d.below(n), d.below(n + 9), far[d.below(len(far))]}[d.below(3)])
			}
		}
		p := stamp.Plan(l)
		if len(p) != n {
			t.Fatalf("%d steps of %d works", len(p), n)
		}
		for i, w := range l {
			wantNeeds(t, "a step's needs", p[i], w.Needs)
		}
	}
}

// P26.3: the plan of a job's works may be, and they stand in an order in which they may be made, one behind the other.
func TestPlanOfWorks(t *testing.T) {
	for frames := range api.MaxFrames + 2 {
		l := stamp.Works(api.Digest{5}, frames)
		p := stamp.Plan(l)
		if e := p.Check(); e != api.OK {
			t.Fatalf("%d frames: %d", frames, e)
		}
		done := make(plan.Done, len(l))
		for i, w := range l {
			for _, need := range w.Needs {
				if need < 0 || need >= i {
					t.Fatalf("%d frames: the work %d needs %d", frames, i, need)
				}
			}
			if !slices.Contains(p.Ready(done), i) {
				t.Fatalf("%d frames: the work %d may not be made behind those ahead of it", frames, i)
			}
			done[i] = true
		}
		if deep := min(frames, 1)*3 + min(frames, api.MaxFrames); p.Deep() != deep {
			t.Fatalf("%d frames: %d, not %d", frames, p.Deep(), deep)
		}
	}
}

// P26.3: the lowest work that may be made is the next one, so the order is that in which they stand.
func TestOrderOfWorks(t *testing.T) {
	for frames := range api.MaxFrames + 1 {
		order, e := stamp.Plan(stamp.Works(api.Digest{6}, frames)).Order()
		if e != api.OK || len(order) != 4*frames {
			t.Fatalf("%d frames: %v, %d", frames, order, e)
		}
		for i, n := range order {
			if n != i {
				t.Fatalf("%d frames: %v", frames, order)
			}
		}
	}
}

// spoil writes into a list and the room behind its end.
func spoil(l []int) {
	for i := range l[:cap(l)] {
		l[:cap(l)][i] = -77
	}
}

// R3: works and plans are new memory, and no two of their lists share any.
func TestNewMemory(t *testing.T) {
	want := byWords(api.Digest{7}, 3)
	l := stamp.Works(api.Digest{7}, 3)
	more := stamp.Works(api.Digest{7}, 3)
	p := stamp.Plan(l)
	for i := range l {
		spoil(l[i].Needs)
		for k := range l {
			if k > i {
				wantNeeds(t, "needs of another work", l[k].Needs, want[k].Needs)
			}
		}
	}
	clear(l[:cap(l)])
	for i := range want {
		wantNeeds(t, "needs of a plan", p[i], want[i].Needs)
		spoil(p[i])
	}
	clear(p[:cap(p)])
	if !slices.EqualFunc(more, want, like) || !slices.EqualFunc(stamp.Works(api.Digest{7}, 3), want, like) {
		t.Errorf("%v", more)
	}
}

// R3: works that are handed in aren't changed, nor the room behind them.
func TestUnchangedWorks(t *testing.T) {
	room := []int{1, 2, 3, 4}
	l := []stamp.Work{{Needs: room[:2]}, {Kind: 3, Frame: 5, Key: api.Digest{1}, Needs: room[:0]}, {Needs: room[1:2]}, {Needs: room}}
	p := stamp.Plan(l[:3])
	if len(p) != 3 {
		t.Fatalf("%v", p)
	}
	for i, want := range [][]int{{1, 2}, nil, {2}} {
		wantNeeds(t, "a step's needs", p[i], want)
	}
	for i := range p {
		spoil(p[i])
	}
	if !slices.Equal(room, []int{1, 2, 3, 4}) || len(l[0].Needs) != 2 || l[1].Kind != 3 || l[1].Frame != 5 || l[1].Key != (api.Digest{1}) || len(l[3].Needs) != 4 {
		t.Errorf("%v, %v", room, l)
	}
}
