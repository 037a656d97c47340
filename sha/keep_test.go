package sha

import (
	"strings"
	"testing"
)

// TestNothingIsKept: of bytes that were mixed in, nothing stays behind as it was.
func TestNothingIsKept(t *testing.T) {
	for n := range 300 {
		h := New()
		h.Add(strings.Repeat("p", n))
		h.Sum()
		for _, x := range []*Hash{h, h.Copy()} {
			if over := string(x.rest[n%blockBytes:]); strings.Trim(over, "\x00") != "" {
				t.Fatalf("%d bytes: %q is kept", n, over)
			}
		}
	}
}
