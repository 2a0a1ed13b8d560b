package plate_test

import (
	"bytes"
	"fmt"
	"math"
	"reflect"
	"regexp"
	"slices"
	"strconv"
	"strings"
	"testing"

	"zoetrope/api"
	"zoetrope/film"
	"zoetrope/plate"
)

// fileOf is a picture's file, laid apart from the program, whether or not the picture may be.
func fileOf(p plate.Picture) []byte {
	b := fmt.Appendf(nil, "P6\n%d %d\n255\n", p.Width, p.Height)
	for _, d := range p.Dots {
		b = append(b, d[0], d[1], d[2])
	}
	return b
}

// wantFile holds a file to be a picture's, there and back.
func wantFile(t *testing.T, p plate.Picture, want []byte) {
	t.Helper()
	if b, e := plate.Encode(p); e != api.OK || !bytes.Equal(b, want) {
		t.Fatalf("%v: %q, %d, not %q", p.Size, b, e, want)
	}
	if got, e := plate.Decode(want); e != api.OK || !reflect.DeepEqual(got, p) {
		t.Fatalf("%q: %v, %d, not %v", want, got, e, p)
	}
	if n := plate.Bytes(p.Size); n != len(want) {
		t.Fatalf("%v: %d bytes, not %d", p.Size, n, len(want))
	}
}

// wantWrong holds bytes to be no file, for one reason.
func wantWrong(t *testing.T, b []byte, want api.Errno) {
	t.Helper()
	if p, e := plate.Decode(b); e != want || p.Size != (film.Size{}) || len(p.Dots) != 0 {
		t.Fatalf("%.60q: %v, %d, not %d", b, p.Size, e, want)
	}
}

// P21.2: the chapter's example, and some files byte by byte.
func TestFilesBySight(t *testing.T) {
	wantFile(t, plate.Picture{Size: film.Size{Width: 1, Height: 1}, Dots: [][3]byte{{}}}, []byte{'P', '6', 10, '1', 32, '1', 10, '2', '5', '5', 10, 0, 0, 0})
	wantFile(t, plate.Picture{Size: film.Size{Width: 2, Height: 1}, Dots: [][3]byte{{1, 2, 3}, {255, 10, 32}}}, []byte("P6\n2 1\n255\n\x01\x02\x03\xff\n "))
	wantFile(t, plate.Picture{Size: film.Size{Width: 1, Height: 10}, Dots: slices.Repeat([][3]byte{{'P', '6', '\n'}}, 10)}, []byte("P6\n1 10\n255\n"+strings.Repeat("P6\n", 10)))
	wantFile(t, plate.Picture{Size: film.Size{Width: 64, Height: 9}, Dots: slices.Repeat([][3]byte{{9, 8, 7}}, 576)}, []byte("P6\n64 9\n255\n"+strings.Repeat("\x09\x08\x07", 576)))
}

// P21.2, P21.3: pictures of all sizes, there and back.
func TestAllSizes(t *testing.T) {
	d := draw(21)
	all := d.picture(film.Size{Width: 64, Height: 64}).Dots
	for x := 1; x <= 64; x++ {
		for y := 1; y <= 64; y++ {
			s := film.Size{Width: x, Height: y}
			p := plate.Picture{Size: s, Dots: all[4096-x*y:]}
			b := fileOf(p)
			wantFile(t, p, b)
			if n := len(fmt.Sprint(x)) + len(fmt.Sprint(y)) + 9 + 3*x*y; len(b) != n {
				t.Fatalf("%v: %d bytes, not %d", s, len(b), n)
			}
		}
	}
}

// P21.2: no bytes for a size that may not be.
func TestBytes(t *testing.T) {
	rows := []struct{ width, height, want int }{
		{1, 1, 14}, {9, 9, 254}, {10, 1, 42}, {1, 10, 42}, {10, 10, 313}, {64, 64, 12301}, {64, 1, 204}, {1, 64, 204}, {2, 1, 17},
		{0, 0, 0}, {0, 1, 0}, {1, 0, 0}, {65, 1, 0}, {1, 65, 0}, {-1, -1, 0}, {-1, 1, 0}, {1, -1, 0}, {65, 65, 0}, {100, 5, 0},
		{math.MaxInt, math.MaxInt, 0}, {math.MinInt, math.MinInt, 0}, {math.MaxInt, 1, 0}, {1, math.MinInt, 0}, {1 << 32, 1 << 32, 0},
	}
	for _, r := range rows {
		if got := plate.Bytes(film.Size{Width: r.width, Height: r.height}); got != r.want {
			t.Errorf("%d, %d: %d bytes, not %d", r.width, r.height, got, r.want)
		}
	}
}

// P21.2: a picture that may not be has no file.
func TestNoFile(t *testing.T) {
	for i, p := range []plate.Picture{
		{}, {Size: film.Size{Width: 1, Height: 1}}, {Size: film.Size{Width: 1, Height: 1}, Dots: make([][3]byte, 2)}, {Dots: make([][3]byte, 1)},
		{Size: film.Size{Width: 0, Height: 5}}, {Size: film.Size{Width: -1, Height: -1}, Dots: make([][3]byte, 1)}, {Size: film.Size{Width: 65, Height: 1}, Dots: make([][3]byte, 65)},
		{Size: film.Size{Width: 1, Height: 65}, Dots: make([][3]byte, 65)}, {Size: film.Size{Width: 2, Height: 3}, Dots: make([][3]byte, 5)}, {Size: film.Size{Width: math.MaxInt, Height: math.MaxInt}, Dots: make([][3]byte, 1)},
	} {
		if b, e := plate.Encode(p); len(b) != 0 || e != api.ErrArg {
			t.Errorf("%d: %q, %d", i, b, e)
		}
	}
}

// P21.2: what doesn't begin like a file, whatever follows; what isn't a head; bytes that are too few, or too many.
func TestDecodeErrors(t *testing.T) {
	rows := []struct {
		text string
		want api.Errno
	}{
		{"", api.ErrMagic}, {"P", api.ErrMagic}, {"P6", api.ErrMagic}, {"P6 ", api.ErrMagic}, {"P6\r\n1 1\n255\nabc", api.ErrMagic}, {"p6\n1 1\n255\nabc", api.ErrMagic}, {"P5\n1 1\n255\nabc", api.ErrMagic}, {"P3\n1 1\n255\nabc", api.ErrMagic},
		{" P6\n1 1\n255\nabc", api.ErrMagic}, {"\nP6\n1 1\n255\nabc", api.ErrMagic}, {"P6\t1 1\n255\nabc", api.ErrMagic}, {"1 1\n255\nabc", api.ErrMagic}, {"P66\n", api.ErrMagic}, {"\xef\xbb\xbfP6\n1 1\n255\nabc", api.ErrMagic},
		{"P6\n", api.ErrForm}, {"P6\n1", api.ErrForm}, {"P6\n1 ", api.ErrForm}, {"P6\n1 1", api.ErrForm}, {"P6\n1 1\n", api.ErrForm}, {"P6\n1 1\n255", api.ErrForm}, {"P6\n1 1\n25", api.ErrForm},
		{"P6\n1 1\n255\n", api.ErrShort}, {"P6\n1 1\n255\na", api.ErrShort}, {"P6\n1 1\n255\nab", api.ErrShort}, {"P6\n1 1\n255\nabcd", api.ErrForm}, {"P6\n1 1\n255\nabc\n", api.ErrForm},
		{"P6\n0 1\n255\n", api.ErrForm}, {"P6\n1 0\n255\n", api.ErrForm}, {"P6\n0 0\n255\n", api.ErrForm}, {"P6\n00 1\n255\n", api.ErrForm}, {"P6\n01 1\n255\nabc", api.ErrForm}, {"P6\n1 01\n255\nabc", api.ErrForm}, {"P6\n001 1\n255\nabc", api.ErrForm},
		{"P6\n65 1\n255\n" + strings.Repeat("abc", 65), api.ErrForm}, {"P6\n1 65\n255\n" + strings.Repeat("abc", 65), api.ErrForm}, {"P6\n99 99\n255\n", api.ErrForm}, {"P6\n100 1\n255\n" + strings.Repeat("abc", 100), api.ErrForm}, {"P6\n1 100\n255\n", api.ErrForm},
		{"P6\n64 1\n255\n", api.ErrShort}, {"P6\n1 64\n255\n", api.ErrShort}, {"P6\n10 1\n255\n", api.ErrShort},
		{"P6\n-1 1\n255\nabc", api.ErrForm}, {"P6\n+1 1\n255\nabc", api.ErrForm}, {"P6\n1 -1\n255\nabc", api.ErrForm}, {"P6\n1 +1\n255\nabc", api.ErrForm}, {"P6\n 1 1\n255\nabc", api.ErrForm}, {"P6\n1  1\n255\nabc", api.ErrForm}, {"P6\n1 1 \n255\nabc", api.ErrForm},
		{"P6\n1\n1\n255\nabc", api.ErrForm}, {"P6\n1 1 255\nabc", api.ErrForm}, {"P6\n1 1\n255 abc", api.ErrForm}, {"P6\n1 1\r\n255\nabc", api.ErrForm}, {"P6\n1 1\n255\r\nabc", api.ErrForm}, {"P6\n1\t1\n255\nabc", api.ErrForm}, {"P6\n1,1\n255\nabc", api.ErrForm},
		{"P6\n 1\n255\nabc", api.ErrForm}, {"P6\n1 \n255\nabc", api.ErrForm}, {"P6\n\n\n255\nabc", api.ErrForm}, {"P6\na 1\n255\nabc", api.ErrForm}, {"P6\n1 b\n255\nabc", api.ErrForm}, {"P6\n1a 1\n255\nabc", api.ErrForm}, {"P6\n1 1b\n255\nabc", api.ErrForm}, {"P6\n0x1 1\n255\nabc", api.ErrForm},
		{"P6\n# made\n1 1\n255\nabc", api.ErrForm}, {"P6\n1 1\n# made\n255\nabc", api.ErrForm}, {"P6\n1 1\n0255\nabc", api.ErrForm}, {"P6\n1 1\n254\nabc", api.ErrForm}, {"P6\n1 1\n65535\nabcdef", api.ErrForm}, {"P6\n1 1\n2555\nabc", api.ErrForm}, {"P6\n1 1\n\n255\nabc", api.ErrForm},
		{"P6\n1 1\nabc", api.ErrForm}, {"P6\n2147483649 1\n255\nabc", api.ErrForm}, {"P6\n4294967297 1\n255\nabc", api.ErrForm}, {"P6\n18446744073709551617 1\n255\nabc", api.ErrForm}, {"P6\n1 1\n255\n" + strings.Repeat("abc", 5000), api.ErrForm},
	}
	for _, r := range rows {
		wantWrong(t, []byte(r.text), r.want)
	}
}

// P21.2: files that end ahead of their end, or behind it.
func TestShortAndLong(t *testing.T) {
	d := draw(22)
	for _, s := range []film.Size{{Width: 1, Height: 1}, {Width: 3, Height: 2}, {Width: 12, Height: 1}, {Width: 1, Height: 64}, {Width: 11, Height: 10}} {
		p := d.picture(s)
		b := fileOf(p)
		head := len(b) - 3*len(p.Dots)
		for n := range len(b) {
			want := api.ErrShort
			if n < 3 {
				want = api.ErrMagic
			} else if n < head {
				want = api.ErrForm
			}
			wantWrong(t, b[:n], want)
		}
		for _, more := range []int{1, 2, 3, 100, 10000} {
			wantWrong(t, append(slices.Clone(b), make([]byte, more)...), api.ErrForm)
		}
	}
}

// errorOf is what is wrong with bytes, found apart from the program.
func errorOf(b []byte) api.Errno {
	if !bytes.HasPrefix(b, []byte("P6\n")) {
		return api.ErrMagic
	}
	head := regexp.MustCompile(`^P6\n([1-9][0-9]?) ([1-9][0-9]?)\n255\n`).FindSubmatch(b)
	if head == nil {
		return api.ErrForm
	}
	width, _ := strconv.Atoi(string(head[1]))
	height, _ := strconv.Atoi(string(head[2]))
	n := len(head[0]) + 3*width*height
	switch {
	case width > 64 || height > 64:
		return api.ErrForm
	case len(b) < n:
		return api.ErrShort
	case len(b) > n:
		return api.ErrForm
	}
	return api.OK
}

// wantByWords holds what bytes are decoded as to what is found apart from the program.
func wantByWords(t *testing.T, b []byte) api.Errno {
	t.Helper()
	want := errorOf(b)
	if want != api.OK {
		wantWrong(t, b, want)
		return want
	}
	p, e := plate.Decode(b)
	if c, _ := plate.Encode(p); e != api.OK || !p.Right() || !bytes.Equal(c, b) || !bytes.Equal(fileOf(p), b) {
		t.Fatalf("%.60q: %v, %d", b, p, e)
	}
	return want
}

// P21.2, P21.3: each byte of some heads, by each other one, taken out, and one more put in.
func TestEachByte(t *testing.T) {
	d := draw(23)
	for _, s := range []film.Size{{Width: 1, Height: 1}, {Width: 2, Height: 10}, {Width: 21, Height: 3}, {Width: 11, Height: 12}} {
		b := fileOf(d.picture(s))
		for at := range min(len(b), 14) {
			wantByWords(t, slices.Concat(b[:at], b[at+1:]))
			for x := range 256 {
				c := slices.Clone(b)
				c[at] = byte(x)
				wantByWords(t, c)
				wantByWords(t, slices.Concat(b[:at], []byte{byte(x)}, b[at:]))
			}
		}
	}
}

// P21.2, P21.3, R1: bytes that are a file but for some of them, or heads alone made of what heads are made of.
func TestAnyBytes(t *testing.T) {
	d := draw(24)
	var many [api.ErrMagic + 1]int
	for range 20000 {
		b := fileOf(d.picture(film.Size{Width: 1 + d.below(12), Height: 1 + d.below(12)}))
		for range d.below(3) {
			at := d.below(min(len(b), 14))
			b[at] = "0123456789 \nP6\x00\xff"[d.below(16)]
		}
		switch d.below(5) {
		case 0:
			b = b[:d.below(len(b)+1)]
		case 1:
			b = append(b, make([]byte, d.below(9))...)
		case 2:
			b = []byte("P6\n")
			for range d.below(12) {
				b = append(b, []string{"1", "2", " ", "\n", "0", "255\n", "6", "\n255\n", "1 ", "1\n"}[d.below(10)]...)
			}
			b = append(b, make([]byte, 3*d.below(3))...)
		}
		many[wantByWords(t, b)]++
	}
	for _, e := range []api.Errno{api.OK, api.ErrMagic, api.ErrForm, api.ErrShort} {
		if many[e] < 300 {
			t.Errorf("the error %d: %d times", e, many[e])
		}
	}
}

// R3: what is handed in stays as it is, with the room behind it, and isn't kept; what is handed out is new memory.
func TestFileMemory(t *testing.T) {
	d := draw(25)
	p := d.picture(film.Size{Width: 4, Height: 3})
	b := fileOf(p)
	room := append(slices.Clone(b), 9, 9, 9, 9)
	got, e := plate.Decode(room[:len(b)])
	other, _ := plate.Decode(room[:len(b)])
	if e != api.OK || !bytes.Equal(room, append(slices.Clone(b), 9, 9, 9, 9)) {
		t.Errorf("%d: the bytes are now %q", e, room)
	}
	clear(room)
	clear(other.Dots[:cap(other.Dots)])
	if !reflect.DeepEqual(got, p) {
		t.Errorf("what was decoded is now %v", got)
	}
	dots := append(slices.Clone(p.Dots), [3]byte{9, 9, 9})
	in := plate.Picture{Size: p.Size, Dots: dots[:12]}
	one, _ := plate.Encode(in)
	two, _ := plate.Encode(in)
	clear(one[:cap(one)])
	if !reflect.DeepEqual(in, p) || dots[12] != [3]byte{9, 9, 9} {
		t.Errorf("what was encoded is now %v", dots)
	}
	clear(dots)
	if !bytes.Equal(two, b) {
		t.Errorf("other bytes are now %q", two)
	}
}
