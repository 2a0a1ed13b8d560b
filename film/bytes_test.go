package film_test

import (
	"bytes"
	"encoding/hex"
	"math"
	"reflect"
	"slices"
	"strings"
	"testing"

	"zoetrope/api"
	"zoetrope/film"
	"zoetrope/hue"
)

// bytesOf are bytes, told in hexadecimal.
func bytesOf(l ...string) []byte {
	b, err := hex.DecodeString(strings.ReplaceAll(strings.Join(l, ""), " ", ""))
	if err != nil {
		panic(err)
	}
	return b
}

// laid lays numbers apart from the program.
type laid []byte

func (b *laid) number(size int, n int64) {
	for range size {
		*b = append(*b, byte(n))
		n >>= 8
	}
}

func (b *laid) fixes(l ...api.Fix) {
	for _, n := range l {
		b.number(5, int64(n))
	}
}

func (b *laid) halves(l ...int) {
	for _, n := range l {
		b.number(2, int64(n))
	}
}

// sheetLaid is a sheet as bytes, whether or not it may be.
func sheetLaid(s film.Sheet) laid {
	var b laid
	b.halves(s.Width, s.Height)
	for _, l := range s.Light {
		b.fixes(l.R, l.G, l.B)
	}
	return b
}

// filmLaid is a film as bytes, whether or not it may be.
func filmLaid(f film.Film) laid {
	b := sheetLaid(f.Sheet)
	b.fixes(f.Depth...)
	for _, n := range f.Normal {
		b.fixes(n.X, n.Y, n.Z)
	}
	for _, l := range f.Base {
		b.fixes(l.R, l.G, l.B)
	}
	b.halves(f.Shape...)
	b.halves(f.Flow...)
	return b
}

// smallFilm is a film of two pixels, no two of its numbers alike, and its bytes.
func smallFilm() (film.Film, []byte) {
	f := film.Film{
		Sheet: film.Sheet{Size: film.Size{Width: 1, Height: 2}, Light: []hue.Hue{h(1, 2, 3), h(-1, one, most)}},
		Depth: []api.Fix{most - 1, 0x1234}, Normal: []api.Vec{v(-one, 4, 5), v(6, -most, 7)}, Base: []hue.Hue{h(8, 9, 10), h(16*one, 11, 12)},
		Shape: []int{-1, 127}, Flow: []int{1, -1},
	}
	return f, bytesOf(
		"0100 0200", "0100000000 0200000000 0300000000", "ffffffffff 0000010000 0000008000",
		"ffffff7f00 3412000000", "0000ffffff 0400000000 0500000000", "0600000000 00000080ff 0700000000",
		"0800000000 0900000000 0a00000000", "0000100000 0b00000000 0c00000000", "ffff 7f00", "0100 ffff")
}

// wantSheet and wantFilm hold bytes to be those of a sheet, a film, there and back.
func wantSheet(t *testing.T, s film.Sheet, want []byte) {
	t.Helper()
	if b, e := film.EncodeSheet(s); e != api.OK || !bytes.Equal(b, want) {
		t.Fatalf("%v: %x, %d, not %x", s, b, e, want)
	}
	if got, e := film.DecodeSheet(want); e != api.OK || !reflect.DeepEqual(got, s) {
		t.Fatalf("%x: %v, %d, not %v", want, got, e, s)
	}
}

func wantFilm(t *testing.T, f film.Film, want []byte) {
	t.Helper()
	if b, e := film.Encode(f); e != api.OK || !bytes.Equal(b, want) {
		t.Fatalf("%v: %x, %d, not %x", f, b, e, want)
	}
	if got, e := film.Decode(want); e != api.OK || !reflect.DeepEqual(got, f) {
		t.Fatalf("%x: %v, %d, not %v", want, got, e, f)
	}
}

// P18.3: the chapter's example, and some bytes one by one.
func TestSheetBytes(t *testing.T) {
	wantSheet(t, film.Sheet{Size: film.Size{Width: 1, Height: 1}, Light: []hue.Hue{{}}}, append([]byte{1, 0, 1, 0}, make([]byte, 15)...))
	wantSheet(t, film.Sheet{Size: film.Size{Width: 2, Height: 1}, Light: []hue.Hue{h(one, -1, 0x010203), h(most, -most, 16*one)}},
		bytesOf("0200 0100", "0000010000 ffffffffff 0302010000", "0000008000 00000080ff 0000100000"))
	high := film.Sheet{Size: film.Size{Width: 1, Height: 64}, Light: slices.Repeat([]hue.Hue{h(5, 6, 7)}, 64)}
	wantSheet(t, high, bytesOf("0100 4000", strings.Repeat("0500000000 0600000000 0700000000", 64)))
}

// P18.3: lists one behind the other, not pixels.
func TestFilmBytes(t *testing.T) {
	f, b := smallFilm()
	wantFilm(t, f, b)
}

// P18.3: drawn sheets and films of all sizes; of each size just as many bytes as it takes.
func TestThereAndBack(t *testing.T) {
	d := draw(5)
	for range 300 {
		f := d.film(d.size())
		wantSheet(t, f.Sheet, sheetLaid(f.Sheet))
		wantFilm(t, f, filmLaid(f))
	}
	for _, s := range []film.Size{{Width: 64, Height: 64}, {Width: 64, Height: 63}, {Width: 1, Height: 64}, {Width: 64, Height: 1}} {
		f := d.film(s)
		wantSheet(t, f.Sheet, sheetLaid(f.Sheet))
		wantFilm(t, f, filmLaid(f))
		b, _ := film.EncodeSheet(f.Sheet)
		c, _ := film.Encode(f)
		if n := s.Width * s.Height; len(b) != 4+15*n || len(c) != 4+54*n {
			t.Errorf("%v: %d and %d bytes", s, len(b), len(c))
		}
	}
}

// P18.3: numbers beyond the span are laid by their lowest bytes.
func TestBeyondTheSpan(t *testing.T) {
	f, b := smallFilm()
	f.Light[0], f.Light[1].R = h(1+1<<40, 2-1<<40, 3+1<<62), -1+1<<40
	f.Depth[1], f.Normal[0].Y, f.Base[1].G = 0x1234+5<<40, 4-1<<41, 11+1<<50
	if got, e := film.Encode(f); e != api.OK || !bytes.Equal(got, b) {
		t.Errorf("%x, %d", got, e)
	}
	if got, e := film.EncodeSheet(f.Sheet); e != api.OK || !bytes.Equal(got, b[:34]) {
		t.Errorf("%x, %d", got, e)
	}
	f.Depth[0] = most + 1
	if got, e := film.Encode(f); e != api.OK || !bytes.Equal(got[34:39], []byte{1, 0, 0, 128, 0}) {
		t.Errorf("%x, %d", got, e)
	}
}

// P18.3: what may not be has no bytes.
func TestEncodeErrors(t *testing.T) {
	rows := []func(f *film.Film){
		func(f *film.Film) { *f = film.Film{} }, func(f *film.Film) { f.Size = film.Size{} }, func(f *film.Film) { f.Width = 0 }, func(f *film.Film) { f.Height = -2 }, func(f *film.Film) { f.Width, f.Height = -1, -2 },
		func(f *film.Film) { f.Width = 2 }, func(f *film.Film) { f.Height = 1 }, func(f *film.Film) { f.Width, f.Height = math.MaxInt, math.MaxInt }, func(f *film.Film) { f.Light = nil }, func(f *film.Film) { f.Light = f.Light[:1] },
		func(f *film.Film) { f.Light = append(f.Light, h(0, 0, 0)) }, func(f *film.Film) { f.Width, f.Light = 65, slices.Repeat(f.Light, 65) },
	}
	for i, spoil := range rows {
		f, _ := smallFilm()
		spoil(&f)
		if b, e := film.EncodeSheet(f.Sheet); len(b) != 0 || e != api.ErrArg {
			t.Errorf("the sheet %d: %x, %d", i, b, e)
		}
		if b, e := film.Encode(f); len(b) != 0 || e != api.ErrArg {
			t.Errorf("the film %d: %x, %d", i, b, e)
		}
	}
	rows = []func(f *film.Film){
		func(f *film.Film) { f.Depth = f.Depth[:1] }, func(f *film.Film) { f.Normal = nil }, func(f *film.Film) { f.Base = append(f.Base, h(1, 1, 1)) }, func(f *film.Film) { f.Shape = f.Shape[1:] }, func(f *film.Film) { f.Flow = nil },
		func(f *film.Film) { f.Shape[0] = -2 }, func(f *film.Film) { f.Shape[1] = 128 }, func(f *film.Film) { f.Flow[0] = 2 }, func(f *film.Film) { f.Flow[1] = -2 }, func(f *film.Film) { f.Flow[1] = 1 << 16 }, func(f *film.Film) { f.Shape[1] = 1<<16 - 1 },
	}
	for i, spoil := range rows {
		f, _ := smallFilm()
		spoil(&f)
		if b, e := film.Encode(f); len(b) != 0 || e != api.ErrArg {
			t.Errorf("the film %d, wrong behind its sheet: %x, %d", i, b, e)
		}
		if b, e := film.EncodeSheet(f.Sheet); len(b) != 34 || e != api.OK {
			t.Errorf("the sheet %d: %x, %d", i, b, e)
		}
	}
}

// wantErrors hold bytes to be no sheet, and no film, for one reason each; OK: they are one.
func wantErrors(t *testing.T, b []byte, sheet, all api.Errno) {
	t.Helper()
	if s, e := film.DecodeSheet(b); e != sheet || e != api.OK && !reflect.DeepEqual(s, film.Sheet{}) {
		t.Fatalf("%x: %v, %d, not %d", b, s, e, sheet)
	}
	if f, e := film.Decode(b); e != all || e != api.OK && !reflect.DeepEqual(f, film.Film{}) {
		t.Fatalf("%x: %v, %d, not %d", b, f, e, all)
	}
}

// P18.3: bytes that end ahead of their end, or behind it.
func TestDecodeShortAndLong(t *testing.T) {
	_, b := smallFilm()
	for n := range len(b) {
		sheet := api.ErrShort
		if n == 34 {
			sheet = api.OK
		} else if n > 34 {
			sheet = api.ErrForm
		}
		wantErrors(t, b[:n], sheet, api.ErrShort)
	}
	wantErrors(t, b, api.ErrForm, api.OK)
	for _, more := range []int{1, 2, 54, 1000} {
		wantErrors(t, append(slices.Clone(b), make([]byte, more)...), api.ErrForm, api.ErrForm)
	}
	wantErrors(t, nil, api.ErrShort, api.ErrShort)
}

// P18.3: the size is looked at as soon as it is read, whatever follows.
func TestDecodeSizes(t *testing.T) {
	for _, x := range []int{0, 1, 2, 64, 65, 255, 256, 257, 1 << 15, 1<<16 - 1} {
		for _, y := range []int{0, 1, 2, 64, 65, 255, 256, 257, 1 << 15, 1<<16 - 1} {
			right := x >= 1 && x <= 64 && y >= 1 && y <= 64
			var b laid
			b.halves(x, y)
			want := api.ErrForm
			if right {
				want = api.ErrShort
			}
			wantErrors(t, b, want, want)
			// Numbers that are all beyond the span.
			long := append(slices.Clone(b), bytes.Repeat([]byte{0x7f}, 5)...)
			if right {
				want = api.ErrOver
			}
			wantErrors(t, long, want, want)
			for n := range 4 {
				wantErrors(t, b[:n], api.ErrShort, api.ErrShort)
			}
			if !right {
				wantErrors(t, append(slices.Clone(b), make([]byte, min(54*x*y, 1<<18))...), api.ErrForm, api.ErrForm)
			}
		}
	}
}

// P18.3: each number from -Most to Most; the first one beyond tells, ahead of what is wrong behind it.
func TestDecodeOver(t *testing.T) {
	_, b := smallFilm()
	sheetEnd, numbersEnd := 34, 104
	over := [][]byte{{1, 0, 0, 128, 0}, {255, 255, 255, 127, 255}, {0, 0, 0, 0, 128}, {255, 255, 255, 255, 127}}
	ends := [][]byte{{0, 0, 0, 128, 0}, {0, 0, 0, 128, 255}}
	for at := 4; at < numbersEnd; at += 5 {
		// What lies behind a sheet is too much for it, whatever it is.
		ofSheet := func(e api.Errno) api.Errno {
			if at >= sheetEnd {
				return api.ErrForm
			}
			return e
		}
		for _, x := range over {
			c := slices.Concat(b[:at], x, b[at+5:])
			wantErrors(t, c, ofSheet(api.ErrOver), api.ErrOver)
			wantErrors(t, append(slices.Clone(c), 0), ofSheet(api.ErrOver), api.ErrOver)
			wantErrors(t, c[:at+5], ofSheet(api.ErrOver), api.ErrOver)
			// A number that isn't whole isn't looked at.
			wantErrors(t, c[:at+4], ofSheet(api.ErrShort), api.ErrShort)
			shape := slices.Clone(c)
			shape[numbersEnd] = 200
			wantErrors(t, shape, ofSheet(api.ErrOver), api.ErrOver)
		}
		for _, x := range ends {
			wantErrors(t, slices.Concat(b[:at], x, b[at+5:]), api.ErrForm, api.OK)
		}
	}
}

// P18.3: shapes and flows that may not be are told when all bytes are read.
func TestDecodeShapesAndFlows(t *testing.T) {
	f, b := smallFilm()
	shapes, flows := len(b)-8, len(b)-4
	for n := range 1 << 16 {
		small := int(int16(n))
		for _, at := range []int{shapes, shapes + 2, flows, flows + 2} {
			c := slices.Clone(b)
			c[at], c[at+1] = byte(n), byte(n>>8)
			right := small >= -1 && small <= 127
			if at >= flows {
				right = small >= -1 && small < 2
			}
			got, e := film.Decode(c)
			if right != (e == api.OK) || !right && (e != api.ErrForm || !reflect.DeepEqual(got, film.Film{})) {
				t.Fatalf("%d: %v, %d", small, got, e)
			}
			if !right {
				if _, e := film.Decode(c[:len(c)-1]); e != api.ErrShort {
					t.Fatalf("%d, and a byte too few: %d", small, e)
				}
				continue
			}
			want := []int{f.Shape[0], f.Shape[1], f.Flow[0], f.Flow[1]}
			want[(at-shapes)/2] = small
			if !slices.Equal(slices.Concat(got.Shape, got.Flow), want) {
				t.Fatalf("%d: %v, %v, not %v", small, got.Shape, got.Flow, want)
			}
		}
	}
}

// errorOf is what is wrong with bytes, found apart from the program.
func errorOf(b []byte, all bool) api.Errno {
	if len(b) < 4 {
		return api.ErrShort
	}
	width, height := int(b[0])|int(b[1])<<8, int(b[2])|int(b[3])<<8
	if width < 1 || width > 64 || height < 1 || height > 64 {
		return api.ErrForm
	}
	n := width * height
	b = b[4:]
	numbers, small := 3*n, 0
	if all {
		numbers, small = 10*n, 2*n
	}
	for range numbers {
		if len(b) < 5 {
			return api.ErrShort
		}
		x := int64(int8(b[4]))<<32 | int64(b[3])<<24 | int64(b[2])<<16 | int64(b[1])<<8 | int64(b[0])
		if x < -1<<31 || x > 1<<31 {
			return api.ErrOver
		}
		b = b[5:]
	}
	if len(b) < 2*small {
		return api.ErrShort
	}
	if len(b) > 2*small {
		return api.ErrForm
	}
	for i := range small {
		x := int(int16(int(b[2*i]) | int(b[2*i+1])<<8))
		if x < -1 || i < n && x > 127 || i >= n && x >= n {
			return api.ErrForm
		}
	}
	return api.OK
}

// P18.3, R1: bytes that are a sheet, or a film, but for some of them: what is decoded is encoded by the very bytes, all else has the first error.
func TestAnyBytes(t *testing.T) {
	d := draw(6)
	var many [2][api.ErrWord + 1]int
	for range 30000 {
		f := d.film(film.Size{Width: 1 + d.below(3), Height: 1 + d.below(3)})
		b := []byte(filmLaid(f))
		if d.below(2) == 0 {
			b = sheetLaid(f.Sheet)
		}
		for range d.below(3) {
			at := d.below(len(b))
			if d.below(3) == 0 {
				at = d.below(4)
			}
			b[at] = byte([]int{0, 1, 2, 127, 128, 255, d.below(256)}[d.below(7)])
		}
		switch d.below(6) {
		case 0:
			b = b[:d.below(len(b)+1)]
		case 1:
			b = append(b, make([]byte, d.below(40))...)
		}
		sheet, all := errorOf(b, false), errorOf(b, true)
		wantErrors(t, b, sheet, all)
		many[0][sheet]++
		many[1][all]++
		if s, e := film.DecodeSheet(b); e == api.OK {
			wantSheet(t, s, b)
		}
		if f, e := film.Decode(b); e == api.OK {
			wantFilm(t, f, b)
		}
	}
	for _, e := range []api.Errno{api.OK, api.ErrShort, api.ErrForm, api.ErrOver} {
		if many[0][e] < 500 || many[1][e] < 500 {
			t.Errorf("the error %d: %d sheets, %d films", e, many[0][e], many[1][e])
		}
	}
}

// R3: what is handed in stays as it is, with the room behind it, and isn't kept.
func TestHandedIn(t *testing.T) {
	f, b := smallFilm()
	room := append(slices.Clone(b), 9, 9, 9, 9)
	got, _ := film.Decode(room[:len(b)])
	sheet, _ := film.DecodeSheet(room[:34])
	if !bytes.Equal(room, append(slices.Clone(b), 9, 9, 9, 9)) {
		t.Errorf("the bytes are now %x", room)
	}
	clear(room)
	if !reflect.DeepEqual(got, f) || !reflect.DeepEqual(sheet, f.Sheet) {
		t.Errorf("what was decoded is now %v, %v", got, sheet)
	}
	c, _ := film.Encode(got)
	e, _ := film.EncodeSheet(got.Sheet)
	if !reflect.DeepEqual(got, f) {
		t.Errorf("what was encoded is now %v", got)
	}
	clear(got.Light)
	clear(got.Flow)
	if !bytes.Equal(c, b) || !bytes.Equal(e, b[:34]) {
		t.Errorf("the bytes are now %x, %x", c, e)
	}
	again, _ := film.Encode(f)
	clear(c[:cap(c)])
	clear(e[:cap(e)])
	if !bytes.Equal(again, b) {
		t.Errorf("other bytes are now %x", again)
	}
}

// spoilt are all lists of a film, one by one, with their spare room, filled by other numbers; behind each of them the others are held to be as they were.
func spoilt(t *testing.T, f film.Film) {
	t.Helper()
	n := len(f.Light)
	lists := []func(){
		func() { fill(f.Light, h(5, 5, 5)) }, func() { fill(f.Depth, 5) }, func() { fill(f.Normal, v(5, 5, 5)) },
		func() { fill(f.Base, h(5, 5, 5)) }, func() { fill(f.Shape, 5) }, func() { fill(f.Flow, 5) },
	}
	for i, spoil := range lists {
		before := partsOf(f)
		spoil()
		after := partsOf(f)
		for j := range after {
			if j != i && !reflect.DeepEqual(before[j], after[j]) {
				t.Fatalf("of %d pixels: the list %d has changed with the list %d", n, j, i)
			}
		}
	}
}

// fill lays one value all over a list, with its spare room.
func fill[T any](l []T, x T) {
	l = l[:cap(l)]
	for i := range l {
		l[i] = x
	}
}

// partsOf are copies of a film's lists.
func partsOf(f film.Film) []any {
	return []any{slices.Clone(f.Light), slices.Clone(f.Depth), slices.Clone(f.Normal), slices.Clone(f.Base), slices.Clone(f.Shape), slices.Clone(f.Flow)}
}

// R3: no two lists of what is decoded share any memory, nor do two answers.
func TestHandedOut(t *testing.T) {
	d := draw(7)
	for _, s := range []film.Size{{Width: 1, Height: 1}, {Width: 3, Height: 1}, {Width: 5, Height: 7}} {
		f := d.film(s)
		b := filmLaid(f)
		one, _ := film.Decode(b)
		other, _ := film.Decode(b)
		spoilt(t, one)
		if !reflect.DeepEqual(other, f) {
			t.Fatalf("another answer is now %v", other)
		}
	}
}
