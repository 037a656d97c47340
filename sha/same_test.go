package sha_test

import (
	"strings"
	"testing"

	"gatehouse/sha"
)

// same tells whether two texts are told as alike or not, asked either way.
func same(t *testing.T, a, b string, want bool) {
	t.Helper()
	if sha.Same(a, b) != want || sha.Same(b, a) != want {
		t.Errorf("Same(%.40q, %.40q), of %d and %d bytes, isn't %t", a, b, len(a), len(b), want)
	}
}

func TestSame(t *testing.T) {
	for _, n := range []int{0, 1, 2, 31, 32, 33, 64, 100, 255, 256, 1 << 16} {
		s := pattern(n)
		same(t, s, s, true)
		same(t, s, strings.Clone(s), true)
		for _, c := range []string{"a", "\x00", "\x00\x00", "\xff", strings.Repeat("\x00", 256)} {
			same(t, s, s+c, false)
			same(t, s, c+s, false)
		}
	}
	same(t, "", "", true)
	same(t, "ab", "ba", false)
	same(t, "a", "A", false)
	same(t, "\u00e9", "e\u0301", false)
}

// TestSameBits: each bit of each byte tells.
func TestSameBits(t *testing.T) {
	for _, n := range []int{1, 2, 32, 70} {
		row := []byte(pattern(n))
		for i := range 8 * n {
			row[i/8] ^= 1 << (i % 8)
			same(t, string(row), pattern(n), false)
			row[i/8] ^= 1 << (i % 8)
		}
		same(t, string(row), pattern(n), true)
	}
}

// TestSameTwice: what is unlike in two places doesn't come out alike.
func TestSameTwice(t *testing.T) {
	same(t, "\x01\x00\x01", "\x00\x00\x00", false)
	same(t, "\x00\x01", "\x01\x00", false)
	same(t, "\x80\x80", "\x00\x00", false)
	same(t, "\x01", "", false)
	same(t, "\x00", "", false)
}

// TestSamePrefixes: all lengths of bytes that are 0, which only their number tells apart.
func TestSamePrefixes(t *testing.T) {
	s := strings.Repeat("\x00", 70)
	for a := range len(s) + 1 {
		for b := range len(s) + 1 {
			same(t, s[:a], s[:b], a == b)
		}
	}
}

func TestSameAnyBytes(t *testing.T) {
	d := dice(7)
	for range 5000 {
		a, b := d.text(), d.text()
		same(t, a, b, a == b)
		same(t, a, strings.Clone(a), true)
	}
}
