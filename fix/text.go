package fix

import (
	"strconv"
	"strings"

	"zoetrope/api"
)

// A part has at most partDigits digits in decimal, for each of them takes away one of the twos in 1/65536.
// unitDigits is one unit, counted in the last one of them: 10^16 / 65536.
const (
	partDigits = 16
	unitDigits = 152587890625
)

// Text is a number in decimal, in full.
func Text(a api.Fix) string {
	a = take(a)
	amount := Abs(a)
	t := strconv.Itoa(Whole(amount))
	if part := Part(amount); part != 0 {
		t += "." + digitsOf(part)
	}
	if a < 0 {
		t = "-" + t
	}
	return t
}

// digitsOf is the digits of a part, up to the last one that isn't 0.
func digitsOf(part api.Fix) string {
	var digits []byte
	for part != 0 {
		part *= 10
		digits = append(digits, '0'+byte(Whole(part)))
		part = Part(part)
	}
	return string(digits)
}

// Parse is the number from -Most to Most whose Text t is; ErrForm: there is none.
func Parse(t string) (api.Fix, api.Errno) {
	a, ok := guess(t)
	if !ok || Text(a) != t {
		return 0, api.ErrForm
	}
	return a, api.OK
}

// guess is the only number whose Text t can be. It overlooks what is wrong with t, but for numbers that it can't hold: its Text tells.
func guess(t string) (api.Fix, bool) {
	amount, below := strings.CutPrefix(t, "-")
	whole, part, _ := strings.Cut(amount, ".")
	if len(part) > partDigits {
		return 0, false
	}
	ones, err := strconv.ParseUint(whole, 10, 16)
	if err != nil {
		return 0, false
	}
	rest, err := strconv.ParseUint(part+strings.Repeat("0", partDigits-len(part)), 10, 64)
	if err != nil {
		return 0, false
	}
	a := api.Fix(ones)*api.One + api.Fix(rest/unitDigits)
	if below {
		a = -a
	}
	return a, true
}
