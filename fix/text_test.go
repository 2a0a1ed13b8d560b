package fix_test

import (
	"math"
	"math/big"
	"strings"
	"testing"

	"zoetrope/api"
	"zoetrope/fix"
)

// texts are numbers, each with its Text.
func texts() map[api.Fix]string {
	return map[api.Fix]string{
		0: "0", one: "1", -one: "-1", 10 * one: "10", -120 * one: "-120", 98304: "1.5", -98304: "-1.5", one / 2: "0.5", -one / 2: "-0.5", one / 4: "0.25",
		1: "0.0000152587890625", -1: "-0.0000152587890625", one - 1: "0.9999847412109375", one + 1: "1.0000152587890625", 2: "0.000030517578125",
		one / 16: "0.0625", 3 * one / 8: "0.375", 100*one + one/128: "100.0078125", 21845: "0.3333282470703125",
		most: "32768", -most: "-32768", most - 1: "32767.9999847412109375", 1 - most: "-32767.9999847412109375", most - one: "32767", most - one/2: "32767.5",
	}
}

// P1.4
func TestText(t *testing.T) {
	for a, want := range texts() {
		if got := fix.Text(a); got != want {
			t.Errorf("Text(%d) = %q, not %q", a, got, want)
		}
	}
	for _, a := range []api.Fix{most + 1, most + one, 2 * most, math.MaxInt64} {
		if got := fix.Text(a); got != "32768" {
			t.Errorf("Text(%d) = %q", a, got)
		}
	}
	for _, a := range []api.Fix{-most - 1, -most - one, -2 * most, math.MinInt64} {
		if got := fix.Text(a); got != "-32768" {
			t.Errorf("Text(%d) = %q", a, got)
		}
	}
}

// decimal is a number in decimal by fractions of any size.
func decimal(a api.Fix) string {
	t := big.NewRat(taken(a).Int64(), int64(one)).FloatString(16)
	return strings.TrimSuffix(strings.TrimRight(t, "0"), ".")
}

// P1.4
func TestTextInFull(t *testing.T) {
	for _, a := range numbers() {
		if got, want := fix.Text(a), decimal(a); got != want {
			t.Errorf("Text(%d) = %q, not %q", a, got, want)
		}
	}
}

// P1.4
func TestParse(t *testing.T) {
	for want, text := range texts() {
		if got, e := fix.Parse(text); got != want || e != api.OK {
			t.Errorf("Parse(%q) = %d, %d, not %d", text, got, e, want)
		}
	}
	for a := range one + 2 {
		for _, b := range []api.Fix{a, -a, most - a, a - most} {
			if got, e := fix.Parse(fix.Text(b)); got != b || e != api.OK {
				t.Fatalf("Parse(%q) = %d, %d, not %d", fix.Text(b), got, e, b)
			}
		}
	}
	for _, a := range numbers() {
		want := fix.Clamp(int64(a))
		if got, e := fix.Parse(fix.Text(a)); got != want || e != api.OK {
			t.Errorf("Parse(%q) = %d, %d, not %d", fix.Text(a), got, e, want)
		}
	}
}

// P1.4: what is the Text of no number.
func TestParseRefuses(t *testing.T) {
	wrong := []string{
		"", " ", "-", "+", ".", "-.", "--1", "+1", "-+1", "1-", "x", "0x1", "1e3", "1E1", "1_0", "1,5", "NaN", "Inf", "one",
		"-0", "00", "01", "-01", "007", "0.0", "-0.0", "1.", "-1.", ".5", "-.5", "1.0", "1.50", "1.500", "00.5", "1.-5", "1.+5", "1.5-", "1.5.5", "1..5", "1.5x", "1. 5", "1.5.",
		" 1", "1 ", "\t1", "1\n", "\n1", "1\x00", "\x00", "\xff", "1\xff", "1.5\x00", "\uff11", "\u0661", "\u22121",
		"0.1", "0.3", "0.00001", "0.000015", "0.00001525878906", "0.0000152587890624", "0.0000152587890626", "0.00001525878906250", "0.00001525878906251", "0.000015258789062500", "0.00000762939453125", "0.9999999999999999", "0.99999999999999999",
		"32768.0", "32768.5", "-32768.5", "32768.0000152587890625", "-32768.0000152587890625", "32769", "-32769", "40000", "65535", "65536", "-65536", "65537", "99999", "100000",
		"2147483648", "4294967296", "4294967297", "281474976710656", "9223372036854775807", "9223372036854775808", "-9223372036854775808", "18446744073709551615", "18446744073709551616", "18446744073709551617",
		"0." + strings.Repeat("0", 300) + "1", strings.Repeat("9", 1000), strings.Repeat("0", 1000), "1." + strings.Repeat("5", 1000), "1.5" + strings.Repeat("0", 1000), strings.Repeat("-", 1000),
	}
	for _, text := range wrong {
		if got, e := fix.Parse(text); got != 0 || e != api.ErrForm {
			t.Errorf("Parse(%q) = %d, %d", text, got, e)
		}
	}
}

// P1.4: what Parse takes is a Text, whatever text it is handed.
func TestParseTakesTextsAlone(t *testing.T) {
	const letters = "0123456789.- "
	state := uint64(7)
	for i := range 200000 {
		b := make([]byte, i%8)
		for j := range b {
			state = next(state)
			b[j] = letters[state>>32%uint64(len(letters))]
		}
		text := string(b)
		got, e := fix.Parse(text)
		switch {
		case e == api.OK && fix.Text(got) != text:
			t.Fatalf("Parse(%q) = %d, whose Text is %q", text, got, fix.Text(got))
		case e != api.OK && (e != api.ErrForm || got != 0):
			t.Fatalf("Parse(%q) = %d, %d", text, got, e)
		}
	}
}
