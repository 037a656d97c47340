package pages_test

import (
	"slices"
	"testing"

	"gatehouse/api"
	"gatehouse/pages"
)

const (
	least   = -1 << 63
	highest = 1<<63 - 1
	most    = 4096
)

// made answers n bytes, all 0.
func made(t *testing.T, n int) *pages.Bytes {
	t.Helper()
	b, e := pages.New(n)
	if b == nil || e != api.OK {
		t.Fatalf("New(%d) = %v, %d", n, b, e)
	}
	return b
}

// filled answers those bytes.
func filled(t *testing.T, s string) *pages.Bytes {
	t.Helper()
	b := made(t, len(s))
	errno(t, "Write", b.Write(0, s), api.OK)
	return b
}

// pattern answers n bytes, none of them 0, such that no page is like its neighbours.
func pattern(n int) string {
	row := make([]byte, n)
	for i := range row {
		row[i] = byte(i%251) + 1
	}
	return string(row)
}

func errno(t *testing.T, what string, got, want api.Errno) {
	t.Helper()
	if got != want {
		t.Errorf("%s: error %d, not %d", what, got, want)
	}
}

// holds tells whether the bytes are those: how many, in how many pages, read at once, one by one, and not beyond.
func holds(t *testing.T, b *pages.Bytes, want string) {
	t.Helper()
	if b.Len() != len(want) {
		t.Fatalf("Len = %d, not %d", b.Len(), len(want))
	}
	if b.Pages() != (len(want)+63)/64 {
		t.Errorf("Pages = %d of %d bytes", b.Pages(), len(want))
	}
	if s, e := b.Read(0, len(want)); s != want || e != api.OK {
		t.Fatalf("Read(0, %d) = %q, %d, not %q", len(want), s, e, want)
	}
	for i := range len(want) {
		if s, e := b.Read(i, 1); s != want[i:i+1] || e != api.OK {
			t.Fatalf("Read(%d, 1) = %q, %d", i, s, e)
		}
	}
	if s, e := b.Read(0, len(want)+1); s != "" || e != api.ErrFault {
		t.Errorf("Read(0, %d) = %q, %d", len(want)+1, s, e)
	}
}

// unlike tells whether those are the pages in which the two differ, asked either way.
func unlike(t *testing.T, a, b *pages.Bytes, want ...int) {
	t.Helper()
	if got := a.Unlike(b); !slices.Equal(got, want) {
		t.Errorf("Unlike = %v, not %v", got, want)
	}
	if got := b.Unlike(a); !slices.Equal(got, want) {
		t.Errorf("Unlike the other way = %v, not %v", got, want)
	}
}

// there tells of a model whether the n bytes from at on are there, without a sum that could wrap.
func there(row []byte, at, n int) bool {
	return at >= 0 && n >= 0 && at <= len(row) && n <= len(row)-at
}

// differ answers in which pages two models have unlike bytes, byte by byte.
func differ(a, b []byte) []int {
	var list []int
	for i := range max(len(a), len(b)) {
		same := i < len(a) && i < len(b) && a[i] == b[i]
		if !same && !slices.Contains(list, i/64) {
			list = append(list, i/64)
		}
	}
	return list
}

// dice is a row of numbers that look like chance, the same each time.
type dice uint64

func (d *dice) roll(n int) int {
	*d = *d*6364136223846793005 + 1442695040888963407
	return int(uint64(*d) >> 33 % uint64(n))
}

// near answers a number about those of a row of n bytes: mostly within it, often at a page's edge, seldom far off.
func (d *dice) near(n int) int {
	switch d.roll(12) {
	case 0:
		return []int{least, least + 1, -64, -1, highest - 8, highest - 1, highest, 1 << 62, 1 << 32}[d.roll(9)]
	case 1, 2, 3:
		return d.roll(n/64+2)*64 + d.roll(3) - 1
	case 4, 5:
		return n + d.roll(19) - 9
	}
	return d.roll(n + 1)
}

// text answers some bytes, few of them 0: mostly few, seldom many.
func (d *dice) text() string {
	n := d.roll([]int{1, 4, 20, 70, 200, 400}[d.roll(6)])
	row := make([]byte, n)
	for i := range row {
		row[i] = byte(d.roll(256))
	}
	return string(row)
}
