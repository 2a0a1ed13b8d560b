package works_test

import (
	"bytes"
	"crypto/sha256"
	"encoding/hex"
	"slices"
	"testing"

	"zoetrope/api"
	"zoetrope/film"
	"zoetrope/hue"
	"zoetrope/lace"
	"zoetrope/plate"
	"zoetrope/scene"
	"zoetrope/stamp"
	"zoetrope/warp"
	"zoetrope/works"
)

// P27.1: the chapter's example.
func TestExample(t *testing.T) {
	d := draw(1)
	l := all(t, d.scene(3, 2))
	if len(l) != 8 || !bytes.HasPrefix(l[7], []byte("P6\n")) {
		t.Errorf("%d works, the last one %q", len(l), l[7])
	}
}

// sums are the sums of some texts, as digits, the first eight of each.
func sums(l ...[]byte) []string {
	var some []string
	for _, b := range l {
		sum := sha256.Sum256(b)
		some = append(some, hex.EncodeToString(sum[:8]))
	}
	return some
}

// W1, P27.1: all works of a scene, reckoned by another program, by the chapters' words: hits one by one over all shapes, smoothing by its sums.
func TestRoomByAnotherProgram(t *testing.T) {
	want := []string{
		"195a8acea1990ce4", "3520214c2e8e968a", "ab38062129151420", "c38c7e63b47dc9a4",
		"352ab2b80001ce0a", "a674595733585dee", "1bd61ba6128efe19", "6bbd01be32208677",
		"74a18f6ddf0ac049", "f6cc8ea39d08b500", "4ae1cf3066807678", "f699141fb17224e3",
	}
	if got := sums(all(t, room())...); !slices.Equal(got, want) {
		t.Errorf("%q", got)
	}
}

// W1, P27.1: likewise all works of drawn scenes, one behind the other.
func TestDrawnByAnotherProgram(t *testing.T) {
	want := []string{
		"30fb8cc9e2c5fe76", "bc4ceb0481b6c202", "3664e69e6009f990", "73a91a58735473e3", "f9c26981f802cbbd", "92058ee1e152eea8", "202f280fd11f2476", "e69f1183d92dddb2", "11e3449e504298e5", "b2f064fb9630c564",
		"be0df428c6a03fd7", "fcb6ccec7f73cc2c", "07a7ad6a313fbcb3", "a0a43176ac150036", "9dd2196c4c89a9d0", "9b722a6a394527cf", "69f60546bb5712d7", "ae2c040866fe3d6e", "5a51e5c8465c731c", "ccdfa5f44f6f9a05",
		"9fe757133ee225de", "16fc9ae7c8eb1fdf", "93c99740a4240c94", "67f2c0e5f886c7a6", "b2fc38ec2a469250", "55494b9268298bf6", "962259f86a9f5c71", "be0e19bdbf84f607", "4b49a5f5fa6c6a14", "5338b5403ac04619",
		"b9868f1a2a2b6d07", "cd975df0b41b887d", "ecca890e95534940", "cfd03f837848d5e6", "b180bb92e3d8a899", "140c7e70adf9d9b7", "6fa57202ec6a7ca1", "dbd2ac9633c49acd", "3e77d562b1e60dad", "4225d3eafb931915",
	}
	var got []string
	for _, s := range drawn(2) {
		got = append(got, sums(bytes.Join(all(t, s), nil))...)
	}
	if !slices.Equal(got, want) {
		t.Errorf("%q", got)
	}
}

// right is what a call answers that must have no error.
func right[T any](t *testing.T) func(x T, e api.Errno) T {
	return func(x T, e api.Errno) T {
		t.Helper()
		if e != api.OK {
			t.Fatalf("%d", e)
		}
		return x
	}
}

// byWords are all works of a scene as the chapter's words tell them, each of the works as they are, not of their bytes.
func byWords(t *testing.T, s scene.Scene) [][]byte {
	t.Helper()
	films, sheets, pictures, texts := right[film.Film](t), right[film.Sheet](t), right[plate.Picture](t), right[[]byte](t)
	var l [][]byte
	var was film.Film
	var before film.Sheet
	for frame := range s.Frames {
		now := films(film.Render(s, frame))
		light := film.Sheet{}
		if frame == 0 {
			light = sheets(warp.Alone(now))
		} else {
			light = sheets(warp.Blend(now, was, before))
		}
		smooth := sheets(lace.Smooth(now, light))
		shown := pictures(plate.Show(smooth))
		l = append(l, texts(film.Encode(now)), texts(film.EncodeSheet(light)), texts(film.EncodeSheet(smooth)), texts(plate.Encode(shown)))
		was, before = now, light
	}
	return l
}

// P27.1: all works of drawn scenes, word by word; the longest film, too.
func TestAllByWords(t *testing.T) {
	d := draw(3)
	longest := d.scene(2, api.MaxFrames)
	longest.Width, longest.Height = 3, 2
	for _, s := range append(drawn(4), room(), longest) {
		l := all(t, s)
		for i, want := range byWords(t, s) {
			if !bytes.Equal(l[i], want) {
				t.Fatalf("%v: the work %d: %x, not %x", s, i, l[i], want)
			}
		}
	}
}

// P27.1: each work, made alone of those that it needs, is that of all works.
func TestDo(t *testing.T) {
	for _, s := range append(drawn(5), room()) {
		l := all(t, s)
		for frame := range s.Frames {
			for kind := range stamp.Kinds {
				wantMade(t, "alone", l[4*frame+kind], s, kind, frame, handed(l, kind, frame)...)
			}
		}
	}
}

// P27.1: what a work needs are those that layer 26 tells, in its order.
func TestDoByStamp(t *testing.T) {
	s := room()
	l := all(t, s)
	for i, w := range stamp.Works(api.Digest{}, s.Frames) {
		var in [][]byte
		for _, n := range w.Needs {
			in = append(in, l[n])
		}
		wantMade(t, "of what layer 26 tells", l[i], s, w.Kind, w.Frame, in...)
	}
}

// P27.1: a work is made of the bytes that are handed in, whichever they are: of those of another scene it is that of the other one, even of another size.
func TestDoOfOthers(t *testing.T) {
	d := draw(6)
	a, b := d.scene(5, 3), d.scene(8, 3)
	b.Width, b.Height = a.Width+1, a.Height+2
	l := all(t, b)
	for frame := range a.Frames {
		for kind := stamp.Warp; kind < stamp.Kinds; kind++ {
			wantMade(t, "of another scene's", l[4*frame+kind], a, kind, frame, handed(l, kind, frame)...)
		}
		trace := right[[]byte](t)(works.Do(a, stamp.Trace, frame))
		if bytes.Equal(trace, l[4*frame]) {
			t.Errorf("the frame %d: two scenes have one trace", frame)
		}
	}
}

// P27.1: a warp is blended of the warp ahead, not of the film ahead; a lace smooths the warp, not the film; what a blend needs comes from the right place.
func TestEachNeedCounts(t *testing.T) {
	s := room()
	l := all(t, s)
	for _, kind := range []int{stamp.Warp, stamp.Lace} {
		for place := range needed(kind, 2) {
			in := handed(l, kind, 2)
			in[place] = other(t, in[place])
			b, e := works.Do(s, kind, 2, in...)
			if e != api.OK || bytes.Equal(b, l[8+kind]) {
				t.Errorf("the kind %d doesn't hang on its need %d: %d", kind, place, e)
			}
		}
	}
}

// other is a film, or a sheet, whose lights and depths are other ones, and in which no shape is seen.
func other(t *testing.T, b []byte) []byte {
	t.Helper()
	dim := func(s film.Sheet) {
		for i := range s.Light {
			s.Light[i] = hue.Scale(s.Light[i], one/3)
		}
	}
	if f, e := film.Decode(b); e == api.OK {
		dim(f.Sheet)
		for i := range f.Depth {
			f.Depth[i], f.Shape[i] = 0, -1
		}
		return right[[]byte](t)(film.Encode(f))
	}
	s := right[film.Sheet](t)(film.DecodeSheet(b))
	dim(s)
	return right[[]byte](t)(film.EncodeSheet(s))
}

// W5: each plate is a well-formed file of the job's size. W6: without sky and lamps all is black.
func TestPlates(t *testing.T) {
	d := draw(7)
	for i := range 24 {
		s := d.scene(i, 2)
		dark := i%2 == 0
		if dark {
			s.Sky, s.Paints[3] = hue.Hue{}, scene.Paint{Kind: scene.Matte, Color: h(one, one, one)}
		}
		l := all(t, s)
		for frame := range s.Frames {
			p := right[plate.Picture](t)(plate.Decode(l[4*frame+3]))
			if p.Size != size(s) || len(p.Dots) != s.Width*s.Height {
				t.Errorf("%v: a picture of the size %v", s, p.Size)
			}
			if black := slices.Equal(p.Dots, make([][3]byte, len(p.Dots))); dark && !black {
				t.Errorf("%v: %v", s, p.Dots)
			}
			light := right[film.Sheet](t)(film.DecodeSheet(l[4*frame+2])).Light
			if black := slices.Equal(light, make([]hue.Hue, len(light))); dark && !black {
				t.Errorf("%v: %v", s, light)
			}
		}
	}
}
