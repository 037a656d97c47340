package sha

import (
	"strings"

	"gatehouse/api"
)

// digits are those of a number of four bits.
const digits = "0123456789abcdef"

// Hex: as digits.
func Hex(s string) string {
	out := make([]byte, 0, 2*len(s))
	for i := range len(s) {
		out = append(out, digits[s[i]>>4], digits[s[i]&15])
	}
	return string(out)
}

// Unhex: the bytes of digits.
func Unhex(s string) (string, api.Errno) {
	if len(s)%2 != 0 {
		return "", api.ErrForm
	}
	out := make([]byte, 0, len(s)/2)
	for i := 0; i < len(s); i += 2 {
		high, low := strings.IndexByte(digits, s[i]), strings.IndexByte(digits, s[i+1])
		if high < 0 || low < 0 {
			return "", api.ErrForm
		}
		out = append(out, byte(high<<4|low))
	}
	return string(out), api.OK
}
