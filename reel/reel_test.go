package reel_test

import (
	"encoding/hex"
	"math"
	"slices"
	"strings"
	"testing"

	"zoetrope/api"
	"zoetrope/hue"
	"zoetrope/reel"
)

// The calls, with the signatures that the chapter tells.
var (
	_ func() *reel.Writer            = reel.New
	_ func(*reel.Writer, ...int)     = (*reel.Writer).Byte
	_ func(*reel.Writer, ...int)     = (*reel.Writer).Half
	_ func(*reel.Writer, ...int)     = (*reel.Writer).Word
	_ func(*reel.Writer, uint64)     = (*reel.Writer).Long
	_ func(*reel.Writer, ...api.Fix) = (*reel.Writer).Fix
	_ func(*reel.Writer, ...api.Vec) = (*reel.Writer).Vec
	_ func(*reel.Writer, ...hue.Hue) = (*reel.Writer).Hue
	_ func(*reel.Writer, api.Digest) = (*reel.Writer).Sum
	_ func(*reel.Writer, []byte)     = (*reel.Writer).Blob
	_ func(*reel.Writer) []byte      = (*reel.Writer).Bytes
	_ func([]byte) *reel.Reader      = reel.Read
	_ func(*reel.Reader) int         = (*reel.Reader).Byte
	_ func(*reel.Reader) int         = (*reel.Reader).Half
	_ func(*reel.Reader) int         = (*reel.Reader).Word
	_ func(*reel.Reader) uint64      = (*reel.Reader).Long
	_ func(*reel.Reader) int         = (*reel.Reader).Small
	_ func(*reel.Reader) api.Fix     = (*reel.Reader).Fix
	_ func(*reel.Reader) api.Vec     = (*reel.Reader).Vec
	_ func(*reel.Reader) hue.Hue     = (*reel.Reader).Hue
	_ func(*reel.Reader) api.Digest  = (*reel.Reader).Sum
	_ func(*reel.Reader, int) []byte = (*reel.Reader).Blob
	_ func(*reel.Reader, api.Errno)  = (*reel.Reader).Fail
	_ func(*reel.Reader) int         = (*reel.Reader).Left
	_ func(*reel.Reader) api.Errno   = (*reel.Reader).Err
	_ func(*reel.Reader) api.Errno   = (*reel.Reader).End
)

const (
	one  = api.One
	most = api.Most
)

// v is a point of three numbers, in units.
func v(x, y, z api.Fix) api.Vec { return api.Vec{X: x, Y: y, Z: z} }

// h is a light of three kinds, in units.
func h(r, g, b api.Fix) hue.Hue { return hue.Hue{R: r, G: g, B: b} }

// bytesOf are the bytes of a text in hexadecimal, whose blanks count for nothing.
func bytesOf(text string) []byte {
	b, err := hex.DecodeString(strings.ReplaceAll(text, " ", ""))
	if err != nil {
		panic(err)
	}
	return b
}

// rising are so many bytes, from a first one on, each one more than the one ahead.
func rising(many int, first byte) []byte {
	b := make([]byte, many)
	for i := range b {
		b[i] = first + byte(i)
	}
	return b
}

// sum is a sum whose bytes rise from a first one on.
func sum(first byte) api.Digest { return api.Digest(rising(32, first)) }

// value is one value: how it is laid, its bytes, how it is read, and what is read then.
type value struct {
	name string
	lay  func(w *reel.Writer)
	hex  string
	read func(r *reel.Reader) any
	want any
}

// number is a number that fewer than eight bytes take, or a Long.
func number(name string, lay func(w *reel.Writer), hex string, read func(r *reel.Reader) int, want int) value {
	return value{name, lay, hex, func(r *reel.Reader) any { return read(r) }, want}
}

func byteOf(n int, hex string, want int) value {
	return number("Byte", func(w *reel.Writer) { w.Byte(n) }, hex, (*reel.Reader).Byte, want)
}

func halfOf(n int, hex string, want int) value {
	return number("Half", func(w *reel.Writer) { w.Half(n) }, hex, (*reel.Reader).Half, want)
}

func smallOf(n int, hex string, want int) value {
	return number("Small", func(w *reel.Writer) { w.Half(n) }, hex, (*reel.Reader).Small, want)
}

func wordOf(n int, hex string, want int) value {
	return number("Word", func(w *reel.Writer) { w.Word(n) }, hex, (*reel.Reader).Word, want)
}

func longOf(n uint64, hex string) value {
	return value{"Long", func(w *reel.Writer) { w.Long(n) }, hex, func(r *reel.Reader) any { return r.Long() }, n}
}

func fixOf(n api.Fix, hex string, want api.Fix) value {
	return value{"Fix", func(w *reel.Writer) { w.Fix(n) }, hex, func(r *reel.Reader) any { return r.Fix() }, want}
}

func vecOf(n, want api.Vec, hex string) value {
	return value{"Vec", func(w *reel.Writer) { w.Vec(n) }, hex, func(r *reel.Reader) any { return r.Vec() }, want}
}

func hueOf(n, want hue.Hue, hex string) value {
	return value{"Hue", func(w *reel.Writer) { w.Hue(n) }, hex, func(r *reel.Reader) any { return r.Hue() }, want}
}

func sumOf(d api.Digest, hex string) value {
	return value{"Sum", func(w *reel.Writer) { w.Sum(d) }, hex, func(r *reel.Reader) any { return r.Sum() }, d}
}

// blobOf is a blob, read with a number of bytes that it may have at most, its bytes told in hexadecimal.
func blobOf(p []byte, most int, text string) value {
	return value{"Blob", func(w *reel.Writer) { w.Blob(p) }, text, func(r *reel.Reader) any { return hex.EncodeToString(r.Blob(most)) }, hex.EncodeToString(p)}
}

// ints are numbers of one, two and four bytes, those among them that their bytes don't hold.
func ints() []value {
	return []value{
		byteOf(0, "00", 0), byteOf(1, "01", 1), byteOf(127, "7f", 127), byteOf(128, "80", 128), byteOf(255, "ff", 255),
		byteOf(256, "00", 0), byteOf(257, "01", 1), byteOf(-1, "ff", 255), byteOf(-256, "00", 0), byteOf(math.MaxInt, "ff", 255), byteOf(math.MinInt, "00", 0), byteOf(math.MinInt+5, "05", 5),
		halfOf(0, "00 00", 0), halfOf(1, "01 00", 1), halfOf(258, "02 01", 258), halfOf(256, "00 01", 256), halfOf(1<<15, "00 80", 1<<15), halfOf(65535, "ff ff", 65535),
		halfOf(65536, "00 00", 0), halfOf(65539, "03 00", 3), halfOf(-1, "ff ff", 65535), halfOf(-2, "fe ff", 65534), halfOf(math.MaxInt, "ff ff", 65535), halfOf(math.MinInt, "00 00", 0),
		smallOf(0, "00 00", 0), smallOf(258, "02 01", 258), smallOf(1<<15-1, "ff 7f", 1<<15-1), smallOf(1<<15, "00 80", -1<<15), smallOf(1<<15+1, "01 80", 1-1<<15),
		smallOf(65535, "ff ff", -1), smallOf(-1, "ff ff", -1), smallOf(-258, "fe fe", -258), smallOf(-1<<15, "00 80", -1<<15), smallOf(-1<<15-1, "ff 7f", 1<<15-1), smallOf(1<<16, "00 00", 0),
		wordOf(0, "00 00 00 00", 0), wordOf(1, "01 00 00 00", 1), wordOf(0x04030201, "01 02 03 04", 0x04030201), wordOf(1<<31-1, "ff ff ff 7f", 1<<31-1), wordOf(1<<31, "00 00 00 80", 1<<31),
		wordOf(1<<32-1, "ff ff ff ff", 1<<32-1), wordOf(1<<32, "00 00 00 00", 0), wordOf(1<<32+5, "05 00 00 00", 5), wordOf(-1, "ff ff ff ff", 1<<32-1), wordOf(-3, "fd ff ff ff", 1<<32-3),
		wordOf(math.MaxInt, "ff ff ff ff", 1<<32-1), wordOf(math.MinInt, "00 00 00 00", 0),
		longOf(0, "00 00 00 00 00 00 00 00"), longOf(1, "01 00 00 00 00 00 00 00"), longOf(0x0807060504030201, "01 02 03 04 05 06 07 08"),
		longOf(1<<63, "00 00 00 00 00 00 00 80"), longOf(math.MaxUint64, "ff ff ff ff ff ff ff ff"), longOf(math.MaxInt64, "ff ff ff ff ff ff ff 7f"),
	}
}

// fixes are numbers, points and lights of layer 1 that may be read, and such as are laid by bytes of others.
func fixes() []value {
	return []value{
		fixOf(0, "00 00 00 00 00", 0), fixOf(1, "01 00 00 00 00", 1), fixOf(-1, "ff ff ff ff ff", -1), fixOf(one, "00 00 01 00 00", one), fixOf(-one, "00 00 ff ff ff", -one),
		fixOf(0x01020304, "04 03 02 01 00", 0x01020304), fixOf(most-1, "ff ff ff 7f 00", most-1), fixOf(most, "00 00 00 80 00", most),
		fixOf(1-most, "01 00 00 80 ff", 1-most), fixOf(-most, "00 00 00 80 ff", -most),
		fixOf(1<<40, "00 00 00 00 00", 0), fixOf(1<<40+7, "07 00 00 00 00", 7), fixOf(-1<<40-7, "f9 ff ff ff ff", -7), fixOf(1<<41-most, "00 00 00 80 ff", -most),
		fixOf(math.MaxInt64, "ff ff ff ff ff", -1), fixOf(math.MinInt64, "00 00 00 00 00", 0), fixOf(math.MinInt64+3, "03 00 00 00 00", 3),
		vecOf(v(0, 0, 0), v(0, 0, 0), "00 00 00 00 00 00 00 00 00 00 00 00 00 00 00"),
		vecOf(v(1, -2, 3*one), v(1, -2, 3*one), "01 00 00 00 00 fe ff ff ff ff 00 00 03 00 00"),
		vecOf(v(most, -most, 258), v(most, -most, 258), "00 00 00 80 00 00 00 00 80 ff 02 01 00 00 00"),
		vecOf(v(-most, most, -most), v(-most, most, -most), "00 00 00 80 ff 00 00 00 80 00 00 00 00 80 ff"),
		vecOf(v(1<<40+1, 1<<41+2, -1<<40+3), v(1, 2, 3), "01 00 00 00 00 02 00 00 00 00 03 00 00 00 00"),
		hueOf(h(0, 0, 0), h(0, 0, 0), "00 00 00 00 00 00 00 00 00 00 00 00 00 00 00"),
		hueOf(h(5, one, -6), h(5, one, -6), "05 00 00 00 00 00 00 01 00 00 fa ff ff ff ff"),
		hueOf(h(-most, 0x0a0b0c0d, most), h(-most, 0x0a0b0c0d, most), "00 00 00 80 ff 0d 0c 0b 0a 00 00 00 00 80 00"),
		hueOf(h(1<<40+1, 1<<41+2, -1<<40+3), h(1, 2, 3), "01 00 00 00 00 02 00 00 00 00 03 00 00 00 00"),
	}
}

// lists are sums and blobs, empty ones and such of just as many bytes as they may have among them.
func lists() []value {
	long := rising(300, 7)
	return []value{
		sumOf(api.Digest{}, strings.Repeat("00", 32)), sumOf(sum(1), hex.EncodeToString(rising(32, 1))), sumOf(sum(240), hex.EncodeToString(rising(32, 240))),
		blobOf(nil, 0, "00 00 00 00"), blobOf([]byte{}, 0, "00 00 00 00"), blobOf(nil, -1, "00 00 00 00"), blobOf(nil, math.MinInt, "00 00 00 00"), blobOf(nil, 9, "00 00 00 00"),
		blobOf([]byte("a"), 1, "01 00 00 00 61"), blobOf([]byte("ab"), 2, "02 00 00 00 61 62"), blobOf([]byte("ab"), 3, "02 00 00 00 61 62"), blobOf([]byte{0, 255, 0}, math.MaxInt, "03 00 00 00 00 ff 00"),
		blobOf(long, 300, "2c 01 00 00"+hex.EncodeToString(long)), blobOf(long[:256], 1<<20, "00 01 00 00"+hex.EncodeToString(long[:256])),
	}
}

// values are values of all kinds.
func values() []value { return slices.Concat(ints(), fixes(), lists()) }

// few are values of all kinds, one of each, none of which is zero.
func few() []value {
	return []value{
		byteOf(200, "c8", 200), halfOf(258, "02 01", 258), smallOf(-3, "fd ff", -3), wordOf(0x04030201, "01 02 03 04", 0x04030201), longOf(1<<63+9, "09 00 00 00 00 00 00 80"),
		fixOf(-2, "fe ff ff ff ff", -2), vecOf(v(1, -2, 3), v(1, -2, 3), "01 00 00 00 00 fe ff ff ff ff 03 00 00 00 00"),
		hueOf(h(5, one, -6), h(5, one, -6), "05 00 00 00 00 00 00 01 00 00 fa ff ff ff ff"),
		sumOf(sum(3), hex.EncodeToString(rising(32, 3))), blobOf([]byte("abc"), 3, "03 00 00 00 61 62 63"),
	}
}

// isLaid tells whether a writer's bytes are what they must be.
func isLaid(t *testing.T, name string, w *reel.Writer, want []byte) {
	t.Helper()
	if got := w.Bytes(); !slices.Equal(got, want) {
		t.Errorf("%s: %x, not %x", name, got, want)
	}
}

// P7.1
func TestLay(t *testing.T) {
	for _, x := range values() {
		w := reel.New()
		x.lay(w)
		isLaid(t, x.name, w, bytesOf(x.hex))
	}
}

// P7.1: one behind the other, of whichever kinds.
func TestLayMixed(t *testing.T) {
	all := reel.New()
	var bytes []byte
	for _, x := range values() {
		x.lay(all)
		bytes = append(bytes, bytesOf(x.hex)...)
		for _, y := range few() {
			w := reel.New()
			x.lay(w)
			y.lay(w)
			isLaid(t, x.name+", "+y.name, w, bytesOf(x.hex+y.hex))
		}
	}
	isLaid(t, "all", all, bytes)
}

// P7.1: the values of one call are laid in their order.
func TestLaySeveral(t *testing.T) {
	rows := []struct {
		name string
		lay  func(w *reel.Writer)
		hex  string
	}{
		{"Byte", func(w *reel.Writer) { w.Byte(1, 255, 256, -2) }, "01 ff 00 fe"},
		{"Half", func(w *reel.Writer) { w.Half(258, -1, 65539) }, "02 01 ff ff 03 00"},
		{"Word", func(w *reel.Writer) { w.Word(7, -2, 0x0a0b0c0d) }, "07 00 00 00 fe ff ff ff 0d 0c 0b 0a"},
		{"Fix", func(w *reel.Writer) { w.Fix(1, -1, most+1, -most-1) }, "01 00 00 00 00 ff ff ff ff ff 01 00 00 80 00 ff ff ff 7f ff"},
		{"Vec", func(w *reel.Writer) { w.Vec(v(1, 2, 3), v(-1, 5, -2)) }, "01 00 00 00 00 02 00 00 00 00 03 00 00 00 00 ff ff ff ff ff 05 00 00 00 00 fe ff ff ff ff"},
		{"Hue", func(w *reel.Writer) { w.Hue(h(1, 2, 3), h(-1, 5, -2)) }, "01 00 00 00 00 02 00 00 00 00 03 00 00 00 00 ff ff ff ff ff 05 00 00 00 00 fe ff ff ff ff"},
		{"the example", func(w *reel.Writer) { w.Half(258); w.Fix(-1) }, "02 01 ff ff ff ff ff"},
		{"no Byte", func(w *reel.Writer) { w.Byte() }, ""}, {"no Half", func(w *reel.Writer) { w.Half() }, ""}, {"no Word", func(w *reel.Writer) { w.Word([]int{}...) }, ""},
		{"no Fix", func(w *reel.Writer) { w.Fix() }, ""}, {"no Vec", func(w *reel.Writer) { w.Vec() }, ""}, {"no Hue", func(w *reel.Writer) { w.Hue() }, ""},
		{"nothing", func(w *reel.Writer) {}, ""},
	}
	for _, r := range rows {
		w := reel.New()
		r.lay(w)
		isLaid(t, r.name, w, bytesOf(r.hex))
		w.Byte(170)
		r.lay(w)
		isLaid(t, r.name+", once more", w, bytesOf(r.hex+"aa"+r.hex))
	}
}

// P7.1: numbers beyond the span are laid by their lowest bytes, too.
func TestLayBeyond(t *testing.T) {
	rows := []struct {
		n   api.Fix
		hex string
	}{
		{most + 1, "01 00 00 80 00"}, {2 * most, "00 00 00 00 01"}, {-most - 1, "ff ff ff 7f ff"}, {-2 * most, "00 00 00 00 ff"},
		{1<<39 - 1, "ff ff ff ff 7f"}, {1 << 39, "00 00 00 00 80"}, {-1 << 39, "00 00 00 00 80"}, {0x0102030405060708, "08 07 06 05 04"}, {-0x0102030405060708, "f8 f8 f9 fa fb"},
	}
	for _, r := range rows {
		w := reel.New()
		w.Fix(r.n)
		w.Vec(v(r.n, 0, r.n))
		w.Hue(h(0, r.n, 1))
		none := "00 00 00 00 00"
		isLaid(t, "beyond the span", w, bytesOf(r.hex+r.hex+none+r.hex+none+r.hex+"01 00 00 00 00"))
	}
}

// P7.1, R1: a nil writer takes nothing.
func TestNilWriter(t *testing.T) {
	var w *reel.Writer
	for _, x := range values() {
		x.lay(w)
	}
	w.Byte()
	w.Vec()
	if got := w.Bytes(); len(got) != 0 {
		t.Errorf("nil: %x", got)
	}
}

// P7.1, R3: what is handed in stays as it is, the room behind its end too, and isn't kept.
func TestLayKeepsNothing(t *testing.T) {
	ints, fixes := []int{1, 2, 3, 99}, []api.Fix{4, 5, 98}
	vecs, hues := []api.Vec{v(1, 2, 3), v(4, 5, 6)}, []hue.Hue{h(7, 8, 9), h(10, 11, 12)}
	blob := []byte("abcdef")
	w := reel.New()
	w.Byte(ints[:3]...)
	w.Half(ints[:3]...)
	w.Word(ints[:3]...)
	w.Fix(fixes[:2]...)
	w.Vec(vecs[:1]...)
	w.Hue(hues[:1]...)
	w.Blob(blob[:4])
	w.Byte(170)
	kept := w.Bytes()
	if !slices.Equal(ints, []int{1, 2, 3, 99}) || !slices.Equal(fixes, []api.Fix{4, 5, 98}) || vecs[0] != v(1, 2, 3) || vecs[1] != v(4, 5, 6) || hues[0] != h(7, 8, 9) || hues[1] != h(10, 11, 12) || string(blob) != "abcdef" {
		t.Errorf("made %v, %v, %v, %v, %s of what was handed in", ints, fixes, vecs, hues, blob)
	}
	clear(ints)
	clear(fixes)
	clear(vecs)
	clear(hues)
	clear(blob)
	isLaid(t, "changed afterwards", w, kept)
}

// R3: a blob that is laid first isn't what the writer lays on behind.
func TestLayBlobFirst(t *testing.T) {
	room := []byte{9, 9, 9, 9, 9, 9, 9, 9}
	w := reel.New()
	w.Blob(room[:2])
	w.Byte(1, 2, 3)
	if !slices.Equal(room, []byte{9, 9, 9, 9, 9, 9, 9, 9}) {
		t.Errorf("made %v of what was handed in", room)
	}
	isLaid(t, "a blob, bytes", w, bytesOf("02 00 00 00 09 09 01 02 03"))
}

// spoil changes all of a list, and what its spare room holds.
func spoil(b []byte) {
	for i := range b[:cap(b)] {
		b[:cap(b)][i] = 0xee
	}
}

// P7.1, R3: what is answered is new memory each time, its spare room too.
func TestBytesAreNew(t *testing.T) {
	w := reel.New()
	var want []byte
	for i := range 100 {
		w.Byte(i)
		want = append(want, byte(i))
		first, second := w.Bytes(), w.Bytes()
		spoil(first)
		if !slices.Equal(second, want) {
			t.Fatalf("%d bytes: two answers share memory", i+1)
		}
		isLaid(t, "changed afterwards", w, want)
		w.Byte(i)
		want = append(want, byte(i))
		if !slices.Equal(second, want[:len(want)-1]) {
			t.Fatalf("%d bytes: what is laid on is laid into an answer", i+1)
		}
		spoil(second)
		isLaid(t, "changed afterwards", w, want)
	}
}

// R5: writers know nothing of each other.
func TestTwoWriters(t *testing.T) {
	a, b := reel.New(), reel.New()
	a.Half(1)
	b.Byte(2)
	a.Blob([]byte("x"))
	b.Long(3)
	isLaid(t, "the first one", a, bytesOf("01 00 01 00 00 00 78"))
	isLaid(t, "the second one", b, bytesOf("02 03 00 00 00 00 00 00 00"))
}
