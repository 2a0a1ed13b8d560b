package seal_test

import (
	"bytes"
	"crypto/sha256"
	"slices"
	"strings"
	"testing"

	"zoetrope/api"
	"zoetrope/seal"
)

// The calls, with the signatures that the chapter tells.
var (
	_ func() *seal.Press                 = seal.New
	_ func(p *seal.Press, l ...[]byte)   = (*seal.Press).Write
	_ func(p *seal.Press) api.Digest     = (*seal.Press).Sum
	_ func(l ...[]byte) api.Digest       = seal.Of
	_ func(p []byte) string              = seal.Hex
	_ func(t string) ([]byte, api.Errno) = seal.Unhex
)

// draw is a list of numbers without any order in them, the same ones in every run.
type draw uint64

// below is the next of them, from 0 on, below n.
func (d *draw) below(n int) int {
	*d = *d*6364136223846793005 + 1442695040888963407
	return int(uint64(*d) >> 32 % uint64(n))
}

// bytes are so many of them.
func (d *draw) bytes(n int) []byte {
	b := make([]byte, n)
	for i := range b {
		b[i] = byte(d.below(256))
	}
	return b
}

// parts are some bytes, cut anywhere, with empty and nil parts between.
func (d *draw) parts(b []byte) [][]byte {
	var l [][]byte
	for len(b) > 0 {
		n := min(len(b), []int{0, 1, 1 + d.below(9), 63, 64, 65, 128, d.below(300)}[d.below(8)])
		if n == 0 && d.below(2) == 0 {
			l = append(l, nil)
		}
		l = append(l, b[:n])
		b = b[n:]
	}
	return l
}

// wantSum holds a sum to be what another program makes of the same bytes.
func wantSum(t *testing.T, what string, got api.Digest, b []byte) {
	t.Helper()
	if want := sha256.Sum256(b); got != want {
		t.Fatalf("%s: %x, not %x", what, got, want)
	}
}

// P22.1: the chapter's example, and those that belong to the standard.
func TestKnownSums(t *testing.T) {
	rows := []struct{ text, want string }{
		{"", "e3b0c442 98fc1c14 9afbf4c8 996fb924 27ae41e4 649b934c a495991b 7852b855"},
		{"abc", "ba7816bf 8f01cfea 414140de 5dae2223 b00361a3 96177a9c b410ff61 f20015ad"},
		{"abcdbcdecdefdefgefghfghighijhijkijkljklmklmnlmnomnopnopq", "248d6a61 d20638b8 e5c02693 0c3e6039 a33ce459 64ff2167 f6ecedd4 19db06c1"},
		{"abcdefghbcdefghicdefghijdefghijkefghijklfghijklmghijklmnhijklmnoijklmnopjklmnopqklmnopqrlmnopqrsmnopqrstnopqrstu", "cf5b16a7 78af8380 036ce59e 7b049237 0b249b11 e8f07a51 afac4503 7afee9d1"},
		{strings.Repeat("a", 1000000), "cdc76e5c 9914fb92 81a1c7e2 84d73e67 f1809a48 a497200e 046d39cc c7112cd0"},
	}
	for _, row := range rows {
		d := seal.Of([]byte(row.text))
		if got := seal.Hex(d[:]); got != strings.ReplaceAll(row.want, " ", "") {
			t.Errorf("%.20q: %s, not %s", row.text, got, row.want)
		}
	}
}

// P22.1: bytes of each number up to some blocks, and about many blocks.
func TestAllLengths(t *testing.T) {
	d := draw(1)
	b := d.bytes(1<<16 + 70)
	for n := range 600 {
		wantSum(t, "Of", seal.Of(b[:n]), b[:n])
	}
	for n := 1<<16 - 70; n <= len(b); n++ {
		wantSum(t, "Of", seal.Of(b[:n]), b[:n])
	}
	for range 300 {
		b := d.bytes(d.below(5000))
		wantSum(t, "Of", seal.Of(b), b)
	}
	for _, x := range []byte{0, 127, 128, 255} {
		for n := range 200 {
			b := bytes.Repeat([]byte{x}, n)
			wantSum(t, "Of", seal.Of(b), b)
		}
	}
}

// P22.1: so many bytes that the number of their bits takes more than four bytes.
func TestManyBits(t *testing.T) {
	part := make([]byte, 1<<20)
	part[77] = 5
	l := append(slices.Repeat([][]byte{part}, 1<<9), []byte("end"))
	want := sha256.New()
	for _, b := range l {
		want.Write(b)
	}
	if got := seal.Of(l...); !bytes.Equal(got[:], want.Sum(nil)) {
		t.Errorf("%x", got)
	}
}

// P22.1, P22.3: two parts, cut anywhere.
func TestTwoParts(t *testing.T) {
	d := draw(2)
	b := d.bytes(200)
	for _, n := range []int{0, 1, 3, 55, 56, 63, 64, 65, 127, 128, 129, 200} {
		for at := range n + 1 {
			wantSum(t, "Of", seal.Of(b[:at], b[at:n]), b[:n])
			p := seal.New()
			p.Write(b[:at])
			p.Write(b[at:n])
			wantSum(t, "Sum", p.Sum(), b[:n])
		}
	}
}

// P22.1, P22.3: many parts, all at once, one by one, and some at once.
func TestManyParts(t *testing.T) {
	d := draw(3)
	for range 500 {
		b := d.bytes(d.below(2000))
		l := d.parts(b)
		wantSum(t, "Of", seal.Of(l...), b)
		single, some := seal.New(), seal.New()
		for _, x := range l {
			single.Write(x)
		}
		for len(l) > 0 {
			n := d.below(len(l) + 1)
			some.Write(l[:n]...)
			l = l[n:]
		}
		wantSum(t, "one by one", single.Sum(), b)
		wantSum(t, "some at once", some.Sum(), b)
	}
	b := d.bytes(300)
	p := seal.New()
	for i := range b {
		p.Write(b[i : i+1])
		wantSum(t, "byte by byte", p.Sum(), b[:i+1])
	}
}

// P22.1: the order of the parts counts; where they are cut doesn't.
func TestOrder(t *testing.T) {
	ab := seal.Of([]byte("a"), []byte("b"))
	if ab == seal.Of([]byte("b"), []byte("a")) || ab != seal.Of([]byte("ab")) || ab != seal.Of(nil, []byte("ab"), []byte{}) {
		t.Errorf("%x", ab)
	}
}

// P22.1: of nothing there is a sum, too.
func TestNothing(t *testing.T) {
	for i, d := range []api.Digest{seal.Of(), seal.Of(nil), seal.Of(nil, nil), seal.Of([]byte{}), seal.New().Sum()} {
		wantSum(t, string(rune('0'+i)), d, nil)
	}
	p := seal.New()
	p.Write()
	p.Write(nil)
	p.Write(nil, []byte{})
	wantSum(t, "Write of nothing", p.Sum(), nil)
}

// P22.1: a sum is that of all that came so far, told any number of times, and more may come.
func TestSumsBetween(t *testing.T) {
	d := draw(4)
	for range 200 {
		p := seal.New()
		var b []byte
		for range d.below(8) {
			more := d.bytes(d.below(150))
			p.Write(more)
			b = append(b, more...)
			for range d.below(3) {
				wantSum(t, "Sum", p.Sum(), b)
			}
		}
		wantSum(t, "Sum", p.Sum(), b)
		wantSum(t, "Sum again", p.Sum(), b)
	}
}

// P22.1, R5: presses know nothing of one another.
func TestPressesApart(t *testing.T) {
	p, q := seal.New(), seal.New()
	p.Write([]byte("of p, "), []byte("and "))
	q.Write([]byte("of q"))
	p.Write([]byte("again"))
	seal.Of([]byte("of none"))
	wantSum(t, "p", p.Sum(), []byte("of p, and again"))
	wantSum(t, "q", q.Sum(), []byte("of q"))
	wantSum(t, "a new one", seal.New().Sum(), nil)
}

// P22.1, R1: a nil press takes nothing; one that New didn't make ends without a panic.
func TestNoPress(t *testing.T) {
	var p *seal.Press
	p.Write()
	p.Write(nil)
	p.Write([]byte("abc"), []byte("def"))
	if d := p.Sum(); d != (api.Digest{}) {
		t.Errorf("%x", d)
	}
	q := new(seal.Press)
	q.Write(make([]byte, 100), nil)
	q.Sum()
}

// R3: parts stay as they are, with the room behind them, and aren't kept.
func TestPartsStay(t *testing.T) {
	d := draw(5)
	for _, n := range []int{1, 40, 64, 100, 130} {
		room := d.bytes(n + 80)
		before := slices.Clone(room)
		l := [][]byte{room[:n/2], room[n/2 : n]}
		heads := slices.Clone(l)
		p := seal.New()
		p.Write(l...)
		first := p.Sum()
		if !bytes.Equal(room, before) || len(l[0]) != len(heads[0]) || len(l[1]) != len(heads[1]) || &room[n/2] != &l[1][0] {
			t.Errorf("of %d bytes: the parts are now %x", n, l)
		}
		clear(room)
		clear(l)
		wantSum(t, "Sum", p.Sum(), before[:n])
		wantSum(t, "the sum ahead", first, before[:n])
	}
}
