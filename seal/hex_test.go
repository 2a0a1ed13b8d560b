package seal_test

import (
	"bytes"
	"encoding/hex"
	"slices"
	"strings"
	"testing"

	"zoetrope/api"
	"zoetrope/seal"
)

// P22.2: some bytes, one by one.
func TestHexBySight(t *testing.T) {
	rows := []struct {
		b    []byte
		text string
	}{
		{nil, ""}, {[]byte{}, ""}, {[]byte{0}, "00"}, {[]byte{1}, "01"}, {[]byte{0x10}, "10"}, {[]byte{0x9a}, "9a"}, {[]byte{255}, "ff"},
		{[]byte{0x0a, 0xff}, "0aff"}, {[]byte{0xde, 0xad, 0xbe, 0xef, 0}, "deadbeef00"}, {[]byte("zoe"), "7a6f65"},
	}
	for _, row := range rows {
		if got := seal.Hex(row.b); got != row.text {
			t.Errorf("%v: %s, not %s", row.b, got, row.text)
		}
		if got, e := seal.Unhex(row.text); e != api.OK || !bytes.Equal(got, row.b) {
			t.Errorf("%s: %v, %d, not %v", row.text, got, e, row.b)
		}
	}
}

// P22.2: bytes of any number, there and back.
func TestHexThereAndBack(t *testing.T) {
	d := draw(6)
	for n := range 300 {
		b := d.bytes(n)
		text := hex.EncodeToString(b)
		if got := seal.Hex(b); got != text {
			t.Fatalf("%x: %s", b, got)
		}
		if got, e := seal.Unhex(text); e != api.OK || !bytes.Equal(got, b) {
			t.Fatalf("%s: %x, %d", text, got, e)
		}
	}
	b := d.bytes(1 << 20)
	if got, e := seal.Unhex(seal.Hex(b)); e != api.OK || !bytes.Equal(got, b) {
		t.Errorf("a great many bytes: %d, %d", len(got), e)
	}
}

// wantForm holds a text to be no digits.
func wantForm(t *testing.T, text string) {
	t.Helper()
	if got, e := seal.Unhex(text); len(got) != 0 || e != api.ErrForm {
		t.Fatalf("%q: %x, %d", text, got, e)
	}
}

// P22.2: all pairs of bytes: those of sixteen are digits, and no other ones.
func TestAllPairs(t *testing.T) {
	const known = "0123456789abcdef"
	for i := range 1 << 16 {
		high, low := byte(i>>8), byte(i)
		text := string([]byte{high, low})
		x, y := strings.IndexByte(known, high), strings.IndexByte(known, low)
		if x < 0 || y < 0 {
			wantForm(t, text)
			wantForm(t, "00"+text)
			wantForm(t, text+"00")
			continue
		}
		if got, e := seal.Unhex(text); e != api.OK || !bytes.Equal(got, []byte{byte(16*x + y)}) {
			t.Fatalf("%q: %x, %d", text, got, e)
		}
	}
}

// P22.2: what is no digits.
func TestNoDigits(t *testing.T) {
	for _, text := range []string{"0", "f", "000", "abc", "0A", "A0", "FF", "0g", "g0", "0x", "0x00", " 0", "0 ", "00 ", " 00", "00\n", "\n0", "-1", "+1", "0a0", "\x00\x00", "é", "éa", "００", "0/", "0:", "0`", "0@", "00000000000000000000000000000000x0"} {
		wantForm(t, text)
	}
	d := draw(7)
	for n := range 130 {
		text := seal.Hex(d.bytes(n + 1))
		wantForm(t, text[1:])
		at := d.below(len(text))
		wantForm(t, text[:at]+"G"+text[at+1:])
	}
}

// R3: what is handed in stays as it is; what is handed out is new memory.
func TestHexMemory(t *testing.T) {
	room := []byte{1, 2, 3, 4, 5, 6}
	text := seal.Hex(room[:3])
	if !slices.Equal(room, []byte{1, 2, 3, 4, 5, 6}) {
		t.Errorf("the bytes are now %v", room)
	}
	clear(room)
	if text != "010203" {
		t.Errorf("the text is now %s", text)
	}
	a, _ := seal.Unhex(text)
	b, _ := seal.Unhex(text)
	clear(a[:cap(a)])
	if text != "010203" || !slices.Equal(b, []byte{1, 2, 3}) {
		t.Errorf("another answer is now %v", b)
	}
}
