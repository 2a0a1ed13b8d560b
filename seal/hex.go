package seal

import (
	"strings"

	"zoetrope/api"
)

// digits are the digits of a half byte.
const digits = "0123456789abcdef"

// Hex is bytes as digits, the higher one first.
func Hex(p []byte) string {
	var t strings.Builder
	t.Grow(2 * len(p))
	for _, b := range p {
		t.WriteByte(digits[b>>4])
		t.WriteByte(digits[b&15])
	}
	return t.String()
}

// Unhex is the bytes that digits are. ErrForm: their number is odd, or there is another digit.
func Unhex(t string) ([]byte, api.Errno) {
	if len(t)%2 != 0 {
		return nil, api.ErrForm
	}
	b := make([]byte, 0, len(t)/2)
	for i := 0; i < len(t); i += 2 {
		high, low := strings.IndexByte(digits, t[i]), strings.IndexByte(digits, t[i+1])
		if high < 0 || low < 0 {
			return nil, api.ErrForm
		}
		b = append(b, byte(high<<4|low))
	}
	return b, api.OK
}
