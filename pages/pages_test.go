package pages_test

import (
	"slices"
	"strings"
	"testing"

	"gatehouse/api"
	"gatehouse/pages"
)

func zeros(n int) string { return strings.Repeat("\x00", n) }

// sizes is lengths: none, some, and those about each page's end.
func sizes() []int {
	r := []int{0, 1, 2, 7, 8, 9, 31, 32}
	for _, p := range []int{1, 2, 3, 63, 64} {
		r = append(r, p*64-1, p*64, p*64+1)
	}
	return r[:len(r)-1]
}

// wrongSizes is lengths that can't be.
var wrongSizes = []int{-1, -2, -64, -4096, least, least + 1, 4097, 4098, 4160, 1 << 31, 1 << 32, highest - 63, highest}

func TestNew(t *testing.T) {
	for _, n := range sizes() {
		holds(t, made(t, n), zeros(n))
	}
	for _, n := range wrongSizes {
		if b, e := pages.New(n); b != nil || e != api.ErrArg {
			t.Errorf("New(%d) = %v, %d", n, b, e)
		}
	}
}

func TestPages(t *testing.T) {
	for n, want := range map[int]int{0: 0, 1: 1, 63: 1, 64: 1, 65: 2, 128: 2, 129: 3, 4032: 63, 4033: 64, 4096: 64} {
		if got := made(t, n).Pages(); got != want {
			t.Errorf("Pages of %d = %d, not %d", n, got, want)
		}
	}
}

func TestFirstExample(t *testing.T) {
	b := made(t, 3)
	errno(t, "Write", b.Write(1, "a", "b"), api.OK)
	holds(t, b, "\x00ab")
	errno(t, "Resize", b.Resize(2), api.OK)
	errno(t, "Resize", b.Resize(4), api.OK)
	holds(t, b, "\x00a\x00\x00")
	if s, e := b.Read(2, 3); s != "" || e != api.ErrFault {
		t.Error(s, e)
	}
	if s, e := b.Read(4, 0); s != "" || e != api.OK {
		t.Error(s, e)
	}
}

func TestSecondExample(t *testing.T) {
	b := made(t, 100)
	errno(t, "SetWord", b.SetWord(60, 258), api.OK)
	holds(t, b, zeros(60)+"\x02\x01"+zeros(38))
	c := b.Copy()
	errno(t, "SetWord", c.SetWord(0, 1), api.OK)
	unlike(t, b, c, 0)
}

// TestResize: from each length to each other one; what is beyond is gone, what is new is 0.
func TestResize(t *testing.T) {
	for _, from := range sizes() {
		for _, to := range sizes() {
			b := filled(t, pattern(from))
			errno(t, "Resize", b.Resize(to), api.OK)
			kept := min(from, to)
			want := pattern(from)[:kept] + zeros(to-kept)
			holds(t, b, want)
			errno(t, "Resize", b.Resize(most), api.OK)
			holds(t, b, pattern(from)[:kept]+zeros(most-kept))
		}
	}
}

// TestResizeForgets: bytes that were there earlier don't come back, whatever way the length went.
func TestResizeForgets(t *testing.T) {
	b := filled(t, pattern(300))
	for _, n := range []int{190, 191, 130, 256, 65, 300} {
		errno(t, "Resize", b.Resize(n), api.OK)
	}
	holds(t, b, pattern(65)+zeros(235))
	errno(t, "Resize", b.Resize(0), api.OK)
	holds(t, b, "")
	errno(t, "Resize", b.Resize(300), api.OK)
	holds(t, b, zeros(300))
}

// TestResizeWrites: new bytes take what is written.
func TestResizeWrites(t *testing.T) {
	b := filled(t, pattern(10))
	errno(t, "Resize", b.Resize(200), api.OK)
	errno(t, "Write", b.Write(120, "abcdefghijkl"), api.OK)
	errno(t, "Resize", b.Resize(130), api.OK)
	holds(t, b, pattern(10)+zeros(110)+"abcdefghij")
}

func TestResizeRefuses(t *testing.T) {
	for _, n := range wrongSizes {
		b := filled(t, pattern(100))
		errno(t, "Resize", b.Resize(n), api.ErrArg)
		holds(t, b, pattern(100))
	}
}

// TestCopy: whatever is done with the one, the other one stays.
func TestCopy(t *testing.T) {
	change := []func(b *pages.Bytes) api.Errno{
		func(b *pages.Bytes) api.Errno { return b.Write(0, "Z") },
		func(b *pages.Bytes) api.Errno { return b.Write(60, zeros(80)) },
		func(b *pages.Bytes) api.Errno { return b.Write(199, "Z") },
		func(b *pages.Bytes) api.Errno { return b.SetWord(124, 1<<63) },
		func(b *pages.Bytes) api.Errno { return b.Resize(0) },
		func(b *pages.Bytes) api.Errno { return b.Resize(70) },
		func(b *pages.Bytes) api.Errno { return b.Resize(128) },
		func(b *pages.Bytes) api.Errno { return b.Resize(199) },
		func(b *pages.Bytes) api.Errno { return b.Resize(201) },
		func(b *pages.Bytes) api.Errno { return b.Resize(4096) },
	}
	for _, first := range change {
		for _, second := range change {
			b := filled(t, pattern(200))
			c := b.Copy()
			holds(t, c, pattern(200))
			unlike(t, b, c)
			errno(t, "change", first(c), api.OK)
			holds(t, b, pattern(200))

			kept, _ := c.Read(0, c.Len())
			errno(t, "change", second(b), api.OK)
			holds(t, c, kept)
		}
	}
}

// TestCopyGrows: growing one within a page and writing there doesn't tell the other one, when it grows too.
func TestCopyGrows(t *testing.T) {
	b := filled(t, pattern(10))
	c := b.Copy()
	errno(t, "Resize", c.Resize(20), api.OK)
	unlike(t, b, c, 0)
	errno(t, "Write", c.Write(10, "ABC"), api.OK)
	errno(t, "Resize", b.Resize(20), api.OK)
	holds(t, b, pattern(10)+zeros(10))
	holds(t, c, pattern(10)+"ABC"+zeros(7))
}

// TestCopiesOfCopies: a row of copies, each of the one ahead of it, each with a byte of its own.
func TestCopiesOfCopies(t *testing.T) {
	row := []*pages.Bytes{filled(t, pattern(most))}
	want := []string{pattern(most)}
	for i := range 64 {
		last, text := row[i].Copy(), want[i]
		errno(t, "Write", last.Write(i*64+i, "\x00"), api.OK)
		row = append(row, last)
		want = append(want, text[:i*64+i]+"\x00"+text[i*64+i+1:])
	}
	errno(t, "Write", row[0].Write(0, zeros(most)), api.OK)
	want[0] = zeros(most)
	for i, b := range row {
		if s, e := b.Read(0, most); s != want[i] || e != api.OK {
			t.Error(i, e)
		}
	}
	unlike(t, row[20], row[23], 20, 21, 22)
}

// TestCopyTwice: two copies of one, and a copy behind a write.
func TestCopyTwice(t *testing.T) {
	b := filled(t, "abc")
	c, d := b.Copy(), b.Copy()
	c.Write(0, "x")
	d.Write(1, "y")
	b.Write(2, "z")
	e := b.Copy()
	b.Write(2, "w")
	holds(t, b, "abw")
	holds(t, c, "xbc")
	holds(t, d, "ayc")
	holds(t, e, "abz")
}

// TestCopyIsMadeAtOnce: a copy of many bytes takes no more pieces of memory than one of few; what shares its pages pays for those alone that are written.
func TestCopyIsMadeAtOnce(t *testing.T) {
	kept := make([]*pages.Bytes, 0, 4096)
	cost := func(n int) float64 {
		b := filled(t, pattern(n))
		return testing.AllocsPerRun(100, func() { kept = append(kept, b.Copy()) })
	}
	if few, many := cost(1), cost(most); many > few || many > 3 {
		t.Error(few, many)
	}
	b := filled(t, pattern(most))
	one := testing.AllocsPerRun(100, func() { c := b.Copy(); c.Write(63, "x"); kept = append(kept, c) })
	all := testing.AllocsPerRun(100, func() { c := b.Copy(); c.Write(0, pattern(most)); kept = append(kept, c) })
	if one > 10 || all < 64 {
		t.Error(one, all)
	}
}

// TestWritesInPlace: who shares no page needs no new one to write.
func TestWritesInPlace(t *testing.T) {
	b := filled(t, pattern(most))
	c := b.Copy()
	text := strings.Repeat("q", most)
	b.Write(0, text)
	if n := testing.AllocsPerRun(100, func() { b.Write(0, text) }); n > 10 {
		t.Error(n)
	}
	holds(t, c, pattern(most))
}

func TestUnlike(t *testing.T) {
	a := filled(t, pattern(200))
	unlike(t, a, a)
	unlike(t, a, filled(t, pattern(200)))
	unlike(t, a, filled(t, pattern(199)), 3)
	unlike(t, a, filled(t, pattern(192)), 3)
	unlike(t, a, filled(t, pattern(191)), 2, 3)
	unlike(t, a, made(t, 200), 0, 1, 2, 3)
	unlike(t, a, made(t, 0), 0, 1, 2, 3)
	unlike(t, made(t, 0), made(t, 0))
	for _, x := range []struct{ at, page int }{{0, 0}, {63, 0}, {64, 1}, {127, 1}, {128, 2}, {192, 3}, {199, 3}} {
		b := a.Copy()
		errno(t, "Write", b.Write(x.at, "\x00"), api.OK)
		unlike(t, a, b, x.page)
		errno(t, "Write", b.Write(x.at, pattern(200)[x.at:x.at+1]), api.OK)
		unlike(t, a, b)
	}
}

// TestUnlikeOfZeros: a byte that is 0 is another thing than none.
func TestUnlikeOfZeros(t *testing.T) {
	for _, x := range []struct {
		a, b int
		want []int
	}{{0, 1, []int{0}}, {1, 2, []int{0}}, {63, 64, []int{0}}, {64, 65, []int{1}}, {64, 128, []int{1}}, {10, 200, []int{0, 1, 2, 3}}, {4095, 4096, []int{63}}} {
		unlike(t, made(t, x.a), made(t, x.b), x.want...)
	}
}

// TestUnlikeIsNew: what is done with an answer isn't seen in another one.
func TestUnlikeIsNew(t *testing.T) {
	a, b := filled(t, pattern(200)), made(t, 200)
	first, second := a.Unlike(b), a.Unlike(b)
	clear(first[:cap(first)])
	if want := []int{0, 1, 2, 3}; !slices.Equal(second, want) || !slices.Equal(a.Unlike(b), want) {
		t.Error(second, a.Unlike(b))
	}
}

func TestNil(t *testing.T) {
	var b *pages.Bytes
	if b.Len() != 0 || b.Pages() != 0 {
		t.Error(b.Len(), b.Pages())
	}
	for _, n := range []int{least, -1, 0, 1, 64, 4096, 4097, highest} {
		errno(t, "Resize", b.Resize(n), api.ErrNone)
		errno(t, "Write", b.Write(n), api.ErrNone)
		errno(t, "Write", b.Write(n, "a", ""), api.ErrNone)
		errno(t, "SetWord", b.SetWord(n, 1<<63), api.ErrNone)
		if x, e := b.Word(n); x != 0 || e != api.ErrNone {
			t.Error(n, x, e)
		}
		for _, m := range []int{least, -1, 0, 1, highest} {
			if s, e := b.Read(n, m); s != "" || e != api.ErrNone {
				t.Error(n, m, s, e)
			}
		}
	}
	if c := b.Copy(); c != nil {
		t.Error(c)
	}
	unlike(t, nil, b)
	unlike(t, made(t, 0), nil)
	unlike(t, made(t, 65), nil, 0, 1)
	unlike(t, filled(t, "a"), nil, 0)
}
