package pages_test

import (
	"strings"
	"testing"

	"gatehouse/api"
)

// TestRead: each span about the pages' edges.
func TestRead(t *testing.T) {
	b := filled(t, pattern(300))
	for at := range 301 {
		for _, n := range []int{0, 1, 2, 7, 63, 64, 65, 128, 129, 200, 300 - at} {
			s, e := b.Read(at, n)
			if at+n > 300 {
				if s != "" || e != api.ErrFault {
					t.Errorf("Read(%d, %d) = %q, %d", at, n, s, e)
				}
				continue
			}
			if s != pattern(300)[at:at+n] || e != api.OK {
				t.Errorf("Read(%d, %d) = %q, %d", at, n, s, e)
			}
		}
	}
	holds(t, b, pattern(300))
}

// TestReadStays: what was read is the bytes of then.
func TestReadStays(t *testing.T) {
	b := filled(t, pattern(100))
	s, _ := b.Read(0, 100)
	errno(t, "Write", b.Write(0, zeros(100)), api.OK)
	if s != pattern(100) {
		t.Error(s)
	}
}

// faults is places and lengths that are not there in 100 bytes.
var faults = [][2]int{
	{-1, 0}, {-1, 1}, {-1, 2}, {-100, 100}, {least, 0}, {least, 1}, {least, highest}, {least, least},
	{0, -1}, {1, -1}, {100, -1}, {50, -50}, {0, least}, {100, least}, {highest, least}, {highest, -1},
	{0, 101}, {1, 100}, {99, 2}, {100, 1}, {101, 0}, {101, -1}, {102, 0}, {128, 0},
	{0, highest}, {1, highest}, {100, highest}, {highest, 0}, {highest, 1}, {highest, highest}, {highest - 7, 8}, {1 << 62, 1 << 62}, {1 << 32, 0},
}

func TestReadFaults(t *testing.T) {
	b := filled(t, pattern(100))
	for _, x := range faults {
		if s, e := b.Read(x[0], x[1]); s != "" || e != api.ErrFault {
			t.Errorf("Read(%d, %d) = %q, %d", x[0], x[1], s, e)
		}
	}
}

// TestWrite: what is written stands there, and nothing else changes.
func TestWrite(t *testing.T) {
	old, text := pattern(300), strings.Repeat("\xffno\x00", 75)
	for at := range 301 {
		for _, n := range []int{0, 1, 2, 63, 64, 65, 128, 300 - at} {
			b := filled(t, old)
			e := b.Write(at, text[:n])
			got, _ := b.Read(0, 300)
			if at+n > 300 {
				if e != api.ErrFault || got != old {
					t.Errorf("Write(%d) of %d: %d, %q", at, n, e, got)
				}
				continue
			}
			if want := old[:at] + text[:n] + old[at+n:]; e != api.OK || got != want {
				t.Errorf("Write(%d) of %d: %d, %q", at, n, e, got)
			}
		}
	}
}

// TestWriteParts: parts stand one behind the other, wherever they end.
func TestWriteParts(t *testing.T) {
	text := pattern(200)
	for _, cuts := range [][]int{{}, {0}, {200}, {0, 0, 200, 200}, {1, 2, 3}, {60, 64, 68}, {63, 64, 65, 128}, {50, 50, 100, 150}, {64, 128, 192}} {
		var parts []string
		from := 0
		for _, c := range append(cuts, 200) {
			parts = append(parts, text[from:c])
			from = c
		}
		for _, at := range []int{0, 1, 4, 60, 63, 64, 99, 100} {
			b := made(t, 300)
			errno(t, "Write", b.Write(at, parts...), api.OK)
			holds(t, b, zeros(at)+text+zeros(100-at))
		}
		b := made(t, 300)
		errno(t, "Write", b.Write(101, parts...), api.ErrFault)
		holds(t, b, zeros(300))
	}
}

// TestWriteNothing: no bytes may be written up to the end, not beyond.
func TestWriteNothing(t *testing.T) {
	for _, parts := range [][]string{nil, {}, {""}, {"", "", ""}} {
		b := filled(t, pattern(100))
		for _, at := range []int{0, 1, 63, 64, 99, 100} {
			errno(t, "Write", b.Write(at, parts...), api.OK)
		}
		for _, at := range []int{-1, -64, least, 101, 127, 128, 4096, highest} {
			errno(t, "Write", b.Write(at, parts...), api.ErrFault)
		}
		holds(t, b, pattern(100))
	}
	b := made(t, 0)
	errno(t, "Write", b.Write(0), api.OK)
	errno(t, "Write", b.Write(0, "a"), api.ErrFault)
	errno(t, "Write", b.Write(1), api.ErrFault)
}

// TestWriteFaults: a write that doesn't fit writes nothing, not even what would.
func TestWriteFaults(t *testing.T) {
	b := filled(t, pattern(100))
	for _, x := range faults {
		if x[1] < 0 || x[1] > 1000 {
			continue
		}
		text := strings.Repeat("Z", x[1])
		errno(t, "Write", b.Write(x[0], text), api.ErrFault)
		errno(t, "Write", b.Write(x[0], text[:x[1]/2], text[x[1]/2:]), api.ErrFault)
	}
	long := strings.Repeat("Z", 1<<20)
	errno(t, "Write", b.Write(0, long), api.ErrFault)
	errno(t, "Write", b.Write(highest, long, long), api.ErrFault)
	errno(t, "Write", b.Write(0, "ZZZ", long, "", long), api.ErrFault)
	holds(t, b, pattern(100))
}

// TestWriteLeavesItsParts: the row of the parts is as it was, its spare room too.
func TestWriteLeavesItsParts(t *testing.T) {
	whole := []string{"abc", "", "def", "spare"}
	b := made(t, 100)
	errno(t, "Write", b.Write(61, whole[:3]...), api.OK)
	for i, want := range []string{"abc", "", "def", "spare"} {
		if whole[i] != want {
			t.Error(whole)
		}
	}
	whole[0] = "xyz"
	holds(t, b, zeros(61)+"abcdef"+zeros(33))
}

func TestWord(t *testing.T) {
	b := filled(t, "\x01\x02\x03\x04\x05\x06\x07\x08\xff\xff\xff\xff\xff\xff\xff\xff\x80")
	for at, want := range map[int]uint64{0: 0x0807060504030201, 1: 0xff08070605040302, 8: 1<<64 - 1, 9: 0x80ffffffffffffff} {
		if x, e := b.Word(at); x != want || e != api.OK {
			t.Errorf("Word(%d) = %x, %d", at, x, e)
		}
	}
}

// TestSetWord: each place, also where a page ends within the number.
func TestSetWord(t *testing.T) {
	for at := range 193 {
		b := filled(t, pattern(200))
		errno(t, "SetWord", b.SetWord(at, 0xf1e2d3c4b5a69788), api.OK)
		holds(t, b, pattern(200)[:at]+"\x88\x97\xa6\xb5\xc4\xd3\xe2\xf1"+pattern(200)[at+8:])
		if x, e := b.Word(at); x != 0xf1e2d3c4b5a69788 || e != api.OK {
			t.Errorf("Word(%d) = %x, %d", at, x, e)
		}
	}
	b := made(t, 8)
	for _, x := range []uint64{0, 1, 255, 256, 258, 1 << 32, 1<<63 - 1, 1 << 63, 1<<64 - 1} {
		errno(t, "SetWord", b.SetWord(0, x), api.OK)
		if got, e := b.Word(0); got != x || e != api.OK {
			t.Errorf("Word = %x, %d, not %x", got, e, x)
		}
	}
}

func TestWordFaults(t *testing.T) {
	for _, n := range []int{0, 1, 7, 8, 64, 67, 100} {
		b := filled(t, pattern(n))
		for _, at := range []int{least, -8, -1, n - 7, n - 1, n, n + 1, 4096, highest - 8, highest - 7, highest} {
			if at >= 0 && at <= n-8 {
				continue
			}
			if x, e := b.Word(at); x != 0 || e != api.ErrFault {
				t.Errorf("Word(%d) of %d = %x, %d", at, n, x, e)
			}
			errno(t, "SetWord", b.SetWord(at, 1<<64-1), api.ErrFault)
		}
		holds(t, b, pattern(n))
	}
}
