package reel_test

import (
	"math"
	"slices"
	"testing"

	"zoetrope/api"
	"zoetrope/hue"
	"zoetrope/reel"
)

// isRead tells whether a value is what it must be.
func isRead(t *testing.T, name string, got, want any) {
	t.Helper()
	if got != want {
		t.Errorf("%s: %v, not %v", name, got, want)
	}
}

// isAt tells whether a reader has no error, and so many bytes left.
func isAt(t *testing.T, name string, r *reel.Reader, left int) {
	t.Helper()
	if r.Err() != api.OK || r.Left() != left {
		t.Errorf("%s: Err %d, Left %d, not %d", name, r.Err(), r.Left(), left)
	}
}

// isWrong tells whether a reader has an error, and all that it reads from then on is zero.
func isWrong(t *testing.T, name string, r *reel.Reader, want api.Errno) {
	t.Helper()
	for range 2 {
		if r.Err() != want || r.Left() != 0 {
			t.Errorf("%s: Err %d, not %d; Left %d", name, r.Err(), want, r.Left())
		}
		isAllZero(t, name, r)
		if e := r.End(); e != want {
			t.Errorf("%s: End %d, not %d", name, e, want)
		}
	}
}

// isAllZero tells whether each kind of value is read as zero.
func isAllZero(t *testing.T, name string, r *reel.Reader) {
	t.Helper()
	if r.Byte() != 0 || r.Half() != 0 || r.Word() != 0 || r.Long() != 0 || r.Small() != 0 || r.Fix() != 0 || r.Vec() != v(0, 0, 0) || r.Hue() != h(0, 0, 0) || r.Sum() != (api.Digest{}) {
		t.Errorf("%s: a value isn't zero", name)
	}
	for _, most := range []int{math.MinInt, -1, 0, 1, math.MaxInt} {
		if got := r.Blob(most); len(got) != 0 {
			t.Errorf("%s: Blob(%d) = %x", name, most, got)
		}
	}
}

// zero is what a value is read as, if it is wrong.
func zero(x value) any {
	switch x.want.(type) {
	case int:
		return 0
	case uint64:
		return uint64(0)
	case api.Fix:
		return api.Fix(0)
	case api.Vec:
		return api.Vec{}
	case hue.Hue:
		return hue.Hue{}
	case api.Digest:
		return api.Digest{}
	}
	return ""
}

// P7.2: each kind of value, with nothing, and with bytes behind it.
func TestRead(t *testing.T) {
	for _, x := range values() {
		b := bytesOf(x.hex)
		r := reel.Read(b)
		isAt(t, x.name, r, len(b))
		isRead(t, x.name, x.read(r), x.want)
		isAt(t, x.name, r, 0)
		isRead(t, x.name+", End", r.End(), api.OK)
		r = reel.Read(append(b, 170, 187))
		isRead(t, x.name, x.read(r), x.want)
		isAt(t, x.name, r, 2)
		isRead(t, x.name+", what is behind", r.Half(), 187<<8+170)
		isAt(t, x.name, r, 0)
		isRead(t, x.name+", End", r.End(), api.OK)
	}
}

// P7.3: each two values that are laid are read as they were, and so are all of them.
func TestThereAndBack(t *testing.T) {
	all := reel.New()
	for _, x := range values() {
		x.lay(all)
		for _, y := range values() {
			w := reel.New()
			x.lay(w)
			y.lay(w)
			r := reel.Read(w.Bytes())
			isRead(t, x.name, x.read(r), x.want)
			isRead(t, x.name+", "+y.name, y.read(r), y.want)
			isRead(t, x.name+", "+y.name+", End", r.End(), api.OK)
			if t.Failed() {
				return
			}
		}
	}
	r := reel.Read(all.Bytes())
	for _, x := range values() {
		isRead(t, "all, "+x.name, x.read(r), x.want)
	}
	isRead(t, "all, End", r.End(), api.OK)
}

// P7.3: all numbers of two bytes, and many of layer 1.
func TestThereAndBackAllOver(t *testing.T) {
	w := reel.New()
	for n := range 1 << 16 {
		w.Byte(n)
		w.Half(n, n)
		w.Fix(api.Fix(n)*(one+1)-most, most-api.Fix(n), api.Fix(n)-most)
	}
	r := reel.Read(w.Bytes())
	for n := range 1 << 16 {
		if r.Byte() != n%256 || r.Half() != n || r.Small() != int(int16(n)) {
			t.Fatalf("%d isn't read as it was laid", n)
		}
		if r.Fix() != api.Fix(n)*(one+1)-most || r.Fix() != most-api.Fix(n) || r.Fix() != api.Fix(n)-most {
			t.Fatalf("a number of %d isn't read as it was laid", n)
		}
	}
	isRead(t, "End", r.End(), api.OK)
}

// P7.2: bytes that end in the middle of a value, with and without values ahead of it.
func TestShort(t *testing.T) {
	for _, x := range values() {
		b := bytesOf(x.hex)
		for end := range b {
			name := x.name + ", short"
			r := reel.Read(b[:end])
			isRead(t, name, x.read(r), zero(x))
			isWrong(t, name, r, api.ErrShort)
		}
		for _, y := range few() {
			r := reel.Read(bytesOf(y.hex + x.hex)[:len(bytesOf(y.hex))+len(b)-1])
			isRead(t, y.name, y.read(r), y.want)
			isAt(t, y.name, r, len(b)-1)
			isRead(t, x.name+", short", x.read(r), zero(x))
			isWrong(t, x.name+", short", r, api.ErrShort)
		}
	}
}

// P7.2: a value that is too short isn't read in part, and what is left of it isn't read as another one.
func TestShortLeavesNothing(t *testing.T) {
	r := reel.Read([]byte{1, 2, 3})
	isRead(t, "Word", r.Word(), 0)
	isRead(t, "Left", r.Left(), 0)
	isRead(t, "Byte", r.Byte(), 0)
	isWrong(t, "Word of three bytes", r, api.ErrShort)
	for _, b := range [][]byte{nil, {}} {
		r := reel.Read(b)
		isAt(t, "no bytes", r, 0)
		isRead(t, "no bytes, End", r.End(), api.OK)
		isAllZero(t, "no bytes", r)
		isWrong(t, "no bytes", r, api.ErrShort)
	}
}

// beyond are numbers of layer 1 that lie beyond the span, as bytes.
func beyond() []string {
	return []string{"01 00 00 80 00", "ff ff ff ff 00", "00 00 00 00 01", "ff ff ff ff 7f", "ff ff ff 7f ff", "00 00 00 00 ff", "ff ff ff ff fe", "00 00 00 00 80", "01 00 00 00 80"}
}

// P7.2: numbers beyond the span.
func TestOver(t *testing.T) {
	for _, x := range beyond() {
		r := reel.Read(bytesOf(x + "01 02 03"))
		isRead(t, x, r.Fix(), api.Fix(0))
		isWrong(t, x, r, api.ErrOver)
		r = reel.Read(bytesOf("07 00 00 00 00" + x))
		isRead(t, x, r.Fix(), api.Fix(7))
		isRead(t, x, r.Fix(), api.Fix(0))
		isWrong(t, x, r, api.ErrOver)
	}
}

// P7.2: a point, a light of which one part is wrong.
func TestPartOver(t *testing.T) {
	right := "07 00 00 00 00"
	for _, x := range beyond() {
		for _, b := range []string{x + right + right, right + x + right, right + right + x} {
			r := reel.Read(bytesOf(b + right + right + right))
			isRead(t, b, r.Vec(), api.Vec{})
			isWrong(t, b, r, api.ErrOver)
			r = reel.Read(bytesOf(b + right + right + right))
			isRead(t, b, r.Hue(), hue.Hue{})
			isWrong(t, b, r, api.ErrOver)
		}
	}
}

// P7.2: of a point's and a light's parts the first wrong one tells what is wrong.
func TestPartOverThenShort(t *testing.T) {
	for end := range 10 {
		b := bytesOf(beyond()[0] + "07 00 00 00 00 07 00 00 00 00")[:5+end]
		r := reel.Read(b)
		isRead(t, "X over", r.Vec(), api.Vec{})
		isWrong(t, "X over", r, api.ErrOver)
		r = reel.Read(b)
		isRead(t, "R over", r.Hue(), hue.Hue{})
		isWrong(t, "R over", r, api.ErrOver)
	}
}

// P7.2: a blob of more bytes than are asked for, whether or not they are there.
func TestBlobLimit(t *testing.T) {
	rows := []struct {
		hex  string
		most int
		want api.Errno
	}{
		{"03 00 00 00 61 62 63", 2, api.ErrLimit}, {"03 00 00 00 61 62 63", 0, api.ErrLimit}, {"03 00 00 00 61 62 63", -1, api.ErrLimit}, {"01 00 00 00 61", math.MinInt, api.ErrLimit},
		{"03 00 00 00 61 62", 2, api.ErrLimit}, {"03 00 00 00", 2, api.ErrLimit}, {"01 00 00 00", -3, api.ErrLimit}, {"00 01 00 00", 255, api.ErrLimit},
		{"ff ff ff ff", 1<<32 - 2, api.ErrLimit}, {"ff ff ff ff", 9, api.ErrLimit}, {"00 00 00 80 61", 1<<31 - 1, api.ErrLimit}, {"ff ff ff ff", -1, api.ErrLimit},
		{"03 00 00 00 61 62", 3, api.ErrShort}, {"03 00 00 00", 4, api.ErrShort}, {"01 00 00 00", 1, api.ErrShort}, {"ff ff ff ff 61", 1<<32 - 1, api.ErrShort}, {"00 00 00 80 61", math.MaxInt, api.ErrShort},
		{"03 00 00", 2, api.ErrShort}, {"03 00 00", -1, api.ErrShort}, {"03", 0, api.ErrShort}, {"", -1, api.ErrShort}, {"", math.MaxInt, api.ErrShort},
	}
	for _, x := range rows {
		r := reel.Read(bytesOf(x.hex))
		if got := r.Blob(x.most); len(got) != 0 {
			t.Errorf("%s: Blob(%d) = %x", x.hex, x.most, got)
		}
		isWrong(t, x.hex, r, x.want)
	}
}

// P7.2: the first error stays, whoever notes it.
func TestFail(t *testing.T) {
	errors := []api.Errno{api.ErrArg, api.ErrNil, api.ErrShort, api.ErrForm, api.ErrMagic, api.ErrOver, api.ErrWord, 99, -1}
	for _, e := range errors {
		r := reel.Read([]byte{1, 2, 3})
		r.Fail(api.OK)
		isAt(t, "Fail(OK)", r, 3)
		isRead(t, "Byte", r.Byte(), 1)
		r.Fail(e)
		isWrong(t, "Fail", r, e)
		r.Fail(api.OK)
		isWrong(t, "Fail, Fail(OK)", r, e)
		for _, other := range errors {
			r.Fail(other)
			isWrong(t, "Fail twice", r, e)
		}
	}
	r := reel.Read([]byte{1})
	isRead(t, "Half", r.Half(), 0)
	r.Fail(api.ErrMagic)
	isWrong(t, "Fail behind ErrShort", r, api.ErrShort)
}

// P7.2: calls behind an error, of each kind of value.
func TestBehindError(t *testing.T) {
	for _, x := range few() {
		r := reel.Read(bytesOf(x.hex + x.hex))
		isRead(t, x.name, x.read(r), x.want)
		r.Fail(api.ErrTrack)
		isRead(t, x.name, x.read(r), zero(x))
		isWrong(t, x.name, r, api.ErrTrack)
	}
}

// P7.2: bytes that are left at the end are an error then, and from then on.
func TestEnd(t *testing.T) {
	for left := 1; left < 20; left++ {
		r := reel.Read(rising(left+1, 1))
		isRead(t, "Byte", r.Byte(), 1)
		isAt(t, "ahead of End", r, left)
		isRead(t, "End", r.End(), api.ErrForm)
		isWrong(t, "End", r, api.ErrForm)
		r.Fail(api.ErrMagic)
		isWrong(t, "Fail behind End", r, api.ErrForm)
	}
	r := reel.Read([]byte{1})
	isRead(t, "Byte", r.Byte(), 1)
	isRead(t, "End", r.End(), api.OK)
	isRead(t, "End", r.End(), api.OK)
	isAt(t, "behind End", r, 0)
	r.Fail(api.ErrMagic)
	isWrong(t, "Fail behind End", r, api.ErrMagic)
	r = reel.Read([]byte{1})
	r.End()
	isRead(t, "Byte behind End", r.Byte(), 0)
}

// P7.2, R1: a nil reader.
func TestNilReader(t *testing.T) {
	var r *reel.Reader
	isWrong(t, "nil", r, api.ErrNil)
	r.Fail(api.ErrMagic)
	r.Fail(api.OK)
	isWrong(t, "nil, Fail", r, api.ErrNil)
}

// P7.2, R3: the bytes that are handed in stay, the room behind their end too, and aren't kept.
func TestReadKeepsNothing(t *testing.T) {
	var b []byte
	for _, x := range few() {
		b = append(b, bytesOf(x.hex)...)
	}
	room := append(slices.Clone(b), 9, 9, 9)
	r := reel.Read(room[:len(b)])
	isAt(t, "all", r, len(b))
	for _, x := range few() {
		isRead(t, x.name, x.read(r), x.want)
	}
	isRead(t, "End", r.End(), api.OK)
	if !slices.Equal(room, append(b, 9, 9, 9)) {
		t.Errorf("made %x of what was handed in", room)
	}
	r = reel.Read(b)
	spoil(b)
	for _, x := range few() {
		isRead(t, x.name+", changed afterwards", x.read(r), x.want)
	}
}

// P7.2, R3: a blob is new memory, its spare room too.
func TestBlobIsNew(t *testing.T) {
	for many := range 40 {
		blob := rising(many, 1)
		w := reel.New()
		w.Blob(blob)
		w.Blob(blob)
		w.Long(5)
		b := w.Bytes()
		r := reel.Read(b)
		first := r.Blob(many)
		spoil(first)
		second := r.Blob(many)
		if !slices.Equal(second, blob) || r.Long() != 5 || r.End() != api.OK || !slices.Equal(b, w.Bytes()) {
			t.Fatalf("%d bytes: a blob shares memory", many)
		}
		spoil(b)
		if !slices.Equal(second, blob) {
			t.Fatalf("%d bytes: a blob shares memory with what was handed in", many)
		}
	}
}

// R5: two readers of the same bytes know nothing of each other.
func TestTwoReaders(t *testing.T) {
	b := []byte{1, 2, 3}
	x, y := reel.Read(b), reel.Read(b)
	isRead(t, "the first one", x.Byte(), 1)
	isAt(t, "the second one", y, 3)
	y.Fail(api.ErrForm)
	isAt(t, "the first one", x, 2)
	isRead(t, "the first one", x.Half(), 3<<8+2)
}
