package sha_test

import (
	"crypto/sha256"
	"encoding/hex"
	"testing"

	"gatehouse/api"
	"gatehouse/sha"
)

// model answers the sum of those bytes as Go's own library has it.
func model(s string) string {
	sum := sha256.Sum256([]byte(s))
	return string(sum[:])
}

// digits answers bytes as Go's own library writes them.
func digits(s string) string { return hex.EncodeToString([]byte(s)) }

// pattern answers n bytes, such that no block is like its neighbours.
func pattern(n int) string {
	row := make([]byte, n)
	for i := range row {
		row[i] = byte(i % 251)
	}
	return string(row)
}

// of answers a hash that has those parts.
func of(t *testing.T, parts ...string) *sha.Hash {
	t.Helper()
	h := sha.New()
	if h == nil {
		t.Fatal("New() = nil")
	}
	for _, s := range parts {
		h.Add(s)
	}
	return h
}

// has tells whether a hash has those bytes, asked twice.
func has(t *testing.T, h *sha.Hash, want string) {
	t.Helper()
	for range 2 {
		if got := h.Sum(); got != model(want) {
			t.Fatalf("Sum of %d bytes = %s, not %s", len(want), digits(got), digits(model(want)))
		}
		if h.Len() != len(want) {
			t.Fatalf("Len = %d, not %d", h.Len(), len(want))
		}
	}
}

func errno(t *testing.T, what string, got, want api.Errno) {
	t.Helper()
	if got != want {
		t.Errorf("%s: error %d, not %d", what, got, want)
	}
}

// dice is a row of numbers that look like chance, the same each time.
type dice uint64

func (d *dice) roll(n int) int {
	*d = *d*6364136223846793005 + 1442695040888963407
	return int(uint64(*d) >> 33 % uint64(n))
}

// text answers whatever bytes: mostly few, seldom many, sometimes as many as blocks have.
func (d *dice) text() string {
	n := d.roll([]int{1, 4, 20, 70, 200, 1000}[d.roll(6)])
	if d.roll(6) == 0 {
		n = 64*d.roll(4) + []int{0, 1, 55, 56, 63}[d.roll(5)]
	}
	row := make([]byte, n)
	for i := range row {
		row[i] = byte(d.roll(256))
	}
	return string(row)
}
