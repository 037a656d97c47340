package sha_test

import (
	"strings"
	"testing"

	"gatehouse/api"
	"gatehouse/sha"
)

// reads tells whether those digits are those bytes.
func reads(t *testing.T, s, want string) {
	t.Helper()
	if got, e := sha.Unhex(s); got != want || e != api.OK {
		t.Errorf("Unhex(%q) = %q, %d, not %q", s, got, e, want)
	}
}

func refused(t *testing.T, s string) {
	t.Helper()
	if got, e := sha.Unhex(s); got != "" || e != api.ErrForm {
		t.Errorf("Unhex(%q) = %q, %d", s, got, e)
	}
}

func TestHex(t *testing.T) {
	for s, want := range map[string]string{"": "", "\x00": "00", "\x0f": "0f", "\xf0": "f0", "\x9a": "9a", "\xa9": "a9", "\xff": "ff", "abc": "616263", "\x01\x23\x45\x67\x89\xab\xcd\xef": "0123456789abcdef"} {
		if got := sha.Hex(s); got != want {
			t.Errorf("Hex(%q) = %q, not %q", s, got, want)
		}
		reads(t, want, s)
	}
}

// TestHexBytes: each byte there is, alone and among others.
func TestHexBytes(t *testing.T) {
	for i := range 256 {
		for _, s := range []string{string([]byte{byte(i)}), "a" + string([]byte{byte(i)}) + "z"} {
			if got := sha.Hex(s); got != digits(s) {
				t.Errorf("Hex(%q) = %q", s, got)
			}
			reads(t, digits(s), s)
		}
	}
}

func TestUnhexUndoes(t *testing.T) {
	d := dice(4)
	for range 5000 {
		s := d.text()
		if got := sha.Hex(s); got != digits(s) {
			t.Fatalf("Hex(%q) = %q", s, got)
		}
		reads(t, sha.Hex(s), s)
	}
	long := pattern(1 << 20)
	if s, e := sha.Unhex(sha.Hex(long)); s != long || e != api.OK {
		t.Error("2^20 bytes don't come back: ", e)
	}
}

// TestHexUndoes: of digits, too, nothing is lost.
func TestHexUndoes(t *testing.T) {
	d := dice(5)
	for range 5000 {
		row := make([]byte, 2*d.roll(100))
		for i := range row {
			row[i] = "0123456789abcdef"[d.roll(16)]
		}
		s, e := sha.Unhex(string(row))
		if sha.Hex(s) != string(row) || e != api.OK {
			t.Fatalf("Unhex(%q) = %q, %d", row, s, e)
		}
	}
}

func TestUnhexOdd(t *testing.T) {
	for _, s := range []string{"0", "f", "012", "abcde", "0g1", "g", " ", strings.Repeat("a", 63), strings.Repeat("0", 65)} {
		refused(t, s)
	}
}

// TestUnhexWrong: each byte that is no digit, in each place of two digits.
func TestUnhexWrong(t *testing.T) {
	for i := range 256 {
		c := string([]byte{byte(i)})
		if strings.Contains("0123456789abcdef", c) {
			continue
		}
		for _, s := range []string{c + "0", "0" + c, c + c, "0a" + c + "f", "0af" + c, c + "0af", "0a" + c + "0ff0", "0a0" + c + "ff"} {
			refused(t, s)
		}
	}
	for _, s := range []string{"A0", "0A", "F0", "0F", "0x61", "61 62 ", " 61 ", "-1", "+1", "\u0661\u0661", "6\n", "00\x00\x00"} {
		refused(t, s)
	}
}
