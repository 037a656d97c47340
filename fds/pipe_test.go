package fds_test

import (
	"strings"
	"testing"

	"gatehouse/api"
	"gatehouse/fds"
)

func TestExampleOfPipes(t *testing.T) {
	b := bare(t)
	r, w := b.pipe(t)
	if r != 0 || w != 1 {
		t.Error(r, w)
	}
	b.writes(t, b.Table, 1, "hello", 5)
	b.reads(t, b.Table, 0, 3, "hel")
	u := b.forks(t, b.Table)
	b.reads(t, u, 0, 9, "lo")
	b.refuses(t, b.Table, by(owner), call{name: "Read", n: 1}, api.ErrAgain)
	b.tells(t, b.Table, by(owner), call{name: "Close", fd: 1}, answer{})
	b.refuses(t, b.Table, by(owner), call{name: "Read", n: 1}, api.ErrAgain)
	b.tells(t, u, by(owner), call{name: "Close", fd: 1}, answer{})
	b.reads(t, b.Table, 0, 1, "")
}

func TestExampleOfFiles(t *testing.T) {
	b := bare(t)
	errno(t, "Make", b.f.Make(b.draw(owner), "/a", of("{1}"), 100), api.OK)
	one, other := b.opens(t, "/a", 3), b.opens(t, "/a", 1)
	b.writes(t, b.Table, one, "ab", 2)
	b.tells(t, b.Table, by(owner), call{name: "Dup", fd: one}, answer{N: 2})
	b.writes(t, b.Table, 2, "c", 1)
	b.reads(t, b.Table, other, 9, "abc")
}

// What a pipe and its ends are made of.
func TestPipeMakes(t *testing.T) {
	b := furnished(t)
	b.opens(t, "/a", 1)
	b.tells(t, b.Table, api.Whence{Thread: low, Draw: 7000}, call{name: "Pipe"}, answer{N: 1, M: 2})
	for id, want := range map[int]string{
		7000: bytesOf(0, 0, 1, 1) + strings.Repeat("\x00", 64),
		7001: bytesOf(2, 600, 7000, 0, 1, 1),
		7002: bytesOf(3, 600, 7000, 0, 1, 2),
	} {
		o, _ := b.k.Object(id)
		if o.Kind != api.Segment || o.Quota != len(want) || o.Links != 1 || !same(o.Label, of("{1}")) || o.Bytes != want {
			t.Errorf("%+v", o)
		}
	}
	if s := numbers(b.k, 601); s[1] != 7001 || s[2] != 7002 {
		t.Error(s)
	}
}

// Behind an error those made ahead are dropped, and no others.
func TestPipeRefused(t *testing.T) {
	b := furnished(t)
	b.opens(t, "/a", 1)
	for _, draw := range []int{least, -1, 0, 1, 601, 20, api.MaxId, api.MaxId + 1, highest, 600, 599, 19, api.MaxId - 1, highest - 1} {
		b.refuses(t, b.Table, api.Whence{Thread: low, Draw: draw}, call{name: "Pipe"}, api.ErrInval)
	}
	taken := b.draw(owner)
	b.tells(t, b.Table, taken, call{name: "Open", path: "/a", n: 1}, answer{N: 1}) // an open of the same family has the number
	for _, ahead := range []int{0, 1, 2} {
		b.refuses(t, b.Table, api.Whence{Thread: low, Draw: taken.Draw - ahead}, call{name: "Pipe"}, api.ErrInval)
	}
	for _, n := range []int{599, 19, api.MaxId, api.MaxId - 1, taken.Draw - 1, taken.Draw - 2} {
		if !b.k.Drawn(n) {
			t.Error(n, "was not drawn: the call stopped ahead of it")
		}
	}
	b.reads(t, b.Table, 0, 9, "hello")
	b.reads(t, b.Table, 1, 9, "hello")
}

// A pipe's ends are for one thing each.
func TestEnds(t *testing.T) {
	b := furnished(t)
	r, w := b.pipe(t)
	for _, n := range []int{least, -1, 0, 1} {
		b.refuses(t, b.Table, by(low), call{name: "Read", fd: w, n: n}, api.ErrBadF)
	}
	for _, s := range []string{"", "x"} {
		b.refuses(t, b.Table, by(low), call{name: "Write", fd: r, s: s}, api.ErrBadF)
	}
	for _, n := range []int{least, -1} {
		b.refuses(t, b.Table, by(low), call{name: "Read", fd: r, n: n}, api.ErrInval)
	}
	b.reads(t, b.Table, r, 0, "")
	for _, n := range []int{1, 64, highest} {
		b.refuses(t, b.Table, by(low), call{name: "Read", fd: r, n: n}, api.ErrAgain)
	}
	b.writes(t, b.Table, w, "", 0)
	b.writes(t, b.Table, w, "abc", 3)
	b.reads(t, b.Table, r, 0, "")
	b.reads(t, b.Table, r, highest, "abc")
}

// A pipe holds 64 bytes, wherever in it they begin.
func TestPipeHolds(t *testing.T) {
	text := strings.Repeat("abcdefghijklmnopqrstuvwxyz0123456789", 4)
	for _, begin := range []int{0, 1, 5, 31, 32, 63} {
		for _, many := range []int{1, 2, 32, 33, 63, 64} {
			b := bare(t)
			r, w := b.pipe(t)
			b.writes(t, b.Table, w, text[:begin], begin)
			b.reads(t, b.Table, r, begin, text[:begin])
			b.writes(t, b.Table, w, text[:many], many)
			if many == 64 {
				b.refuses(t, b.Table, by(low), call{name: "Write", fd: w, s: "x"}, api.ErrAgain)
				b.writes(t, b.Table, w, "", 0)
				b.reads(t, b.Table, r, 1, text[:1])
				b.writes(t, b.Table, w, "xyz", 1)
				b.reads(t, b.Table, r, 99, text[1:64]+"x")
				continue
			}
			b.writes(t, b.Table, w, text, 64-many)
			b.refuses(t, b.Table, by(low), call{name: "Write", fd: w, s: text}, api.ErrAgain)
			b.reads(t, b.Table, r, many-1, text[:many-1])
			b.reads(t, b.Table, r, highest, text[many-1:many]+text[:64-many])
			b.refuses(t, b.Table, by(low), call{name: "Read", fd: r, n: 1}, api.ErrAgain)
			p := numbers(b.k, numbers(b.k, numbers(b.k, 601)[r])[2])
			if p[0] != begin+64 || p[1] != begin+64 || p[2] != 1 || p[3] != 1 {
				t.Error(p[:4])
			}
		}
	}
}

// The byte that was written as the n-th stands at n modulo 64.
func TestWhereBytesStand(t *testing.T) {
	b := bare(t)
	r, w := b.pipe(t)
	id := numbers(b.k, numbers(b.k, 601)[r])[2]
	want := []byte(strings.Repeat("\x00", 64))
	for n := 0; n < 300; n += 7 {
		s := string(rune('a'+n%26)) + "bcdefg"
		b.writes(t, b.Table, w, s, 7)
		for i := range 7 {
			want[(n+i)%64] = s[i]
		}
		if o, _ := b.k.Object(id); o.Bytes != bytesOf(n, n+7, 1, 1)+string(want) {
			t.Fatalf("%q, not %q", o.Bytes[32:], want)
		}
		b.reads(t, b.Table, r, 9, s)
	}
}

// Behind the last writing end what is there is read, then nothing; without a reading end nothing is written.
func TestEndsThatWent(t *testing.T) {
	b := bare(t)
	r, w := b.pipe(t)
	b.writes(t, b.Table, w, "last", 4)
	pipe := numbers(b.k, numbers(b.k, 601)[r])[2]
	b.tells(t, b.Table, by(low), call{name: "Close", fd: w}, answer{})
	if p := numbers(b.k, pipe); p[2] != 1 || p[3] != 0 {
		t.Error(p[:4])
	}
	b.reads(t, b.Table, r, 3, "las")
	b.reads(t, b.Table, r, 3, "t")
	b.reads(t, b.Table, r, 3, "")
	b.reads(t, b.Table, r, 3, "")
	b.tells(t, b.Table, by(low), call{name: "Close", fd: r}, answer{})
	if home, _ := b.k.Object(600); !same(home.List, []int{601}) {
		t.Error(home.List)
	}
	r, w = b.pipe(t)
	pipe = numbers(b.k, numbers(b.k, 601)[r])[2]
	b.writes(t, b.Table, w, strings.Repeat("x", 64), 64)
	b.tells(t, b.Table, by(low), call{name: "Close", fd: r}, answer{})
	if p := numbers(b.k, pipe); p[2] != 0 || p[3] != 1 {
		t.Error(p[:4])
	}
	for _, s := range []string{"x", strings.Repeat("x", 5000)} { // ahead of that it is full
		b.refuses(t, b.Table, by(low), call{name: "Write", fd: w, s: s}, api.ErrPipe)
	}
	b.writes(t, b.Table, w, "", 0)
	b.tells(t, b.Table, by(low), call{name: "Close", fd: w}, answer{})
	if home, _ := b.k.Object(600); !same(home.List, []int{601}) {
		t.Error(home.List)
	}
}

// Held tells where, and for what, one waits.
func TestHeld(t *testing.T) {
	b := furnished(t)
	r, w := b.pipe(t)
	pipe := numbers(b.k, numbers(b.k, 601)[r])[2]
	fd := b.opens(t, "/a", 3)
	b.refuses(t, b.Table, by(low), call{name: "Held", fd: fd}, api.ErrInval)
	b.tells(t, b.Table, by(low), call{name: "Held", fd: r}, answer{Held: [3]int{pipe, 8, 0}})
	b.tells(t, b.Table, by(low), call{name: "Held", fd: w}, answer{Held: [3]int{pipe, 0, 0}})
	b.writes(t, b.Table, w, strings.Repeat("x", 64), 64)
	b.reads(t, b.Table, r, 60, strings.Repeat("x", 60))
	b.writes(t, b.Table, w, "more", 4)
	b.tells(t, b.Table, by(low), call{name: "Held", fd: r}, answer{Held: [3]int{pipe, 8, 68}})
	b.tells(t, b.Table, by(low), call{name: "Held", fd: w}, answer{Held: [3]int{pipe, 0, 60}})
	b.tells(t, b.Table, by(low), call{name: "Close", fd: r}, answer{})
	b.tells(t, b.Table, by(low), call{name: "Held", fd: w}, answer{Held: [3]int{pipe, 0, 60}})
}

// Who waits for bytes runs again when there are some, or when there can't be any more; who waits for room likewise.
func TestWhoIsWoken(t *testing.T) {
	full := strings.Repeat("x", 64)
	for _, c := range []struct {
		what         string
		full         bool
		does         func(b *bench, r, w int, u *fds.Table)
		reads, fills bool // who runs again: of an empty pipe who waits to read, of a full one who waits to write
	}{
		{"write", false, func(b *bench, r, w int, u *fds.Table) { b.Write(by(owner), w, "x") }, true, false},
		{"write of nothing", false, func(b *bench, r, w int, u *fds.Table) { b.Write(by(owner), w, "") }, false, false},
		{"read of nothing", false, func(b *bench, r, w int, u *fds.Table) { b.Read(by(owner), r, 9) }, false, false},
		{"one closes the writing end", false, func(b *bench, r, w int, u *fds.Table) { b.Close(by(owner), w) }, false, false},
		{"both close the writing end", false, func(b *bench, r, w int, u *fds.Table) { b.Close(by(owner), w); u.Close(by(owner), w) }, true, false},
		{"both drop their tables", false, func(b *bench, r, w int, u *fds.Table) { b.Drop(by(owner)); u.Drop(by(owner)) }, true, false},
		{"one drops its table", false, func(b *bench, r, w int, u *fds.Table) { b.Drop(by(owner)) }, false, false},
		{"read", true, func(b *bench, r, w int, u *fds.Table) { b.Read(by(owner), r, 1) }, false, true},
		{"read of no bytes", true, func(b *bench, r, w int, u *fds.Table) { b.Read(by(owner), r, 0) }, false, false},
		{"write into a full one", true, func(b *bench, r, w int, u *fds.Table) { b.Write(by(owner), w, "x") }, false, false},
		{"one closes the reading end", true, func(b *bench, r, w int, u *fds.Table) { b.Close(by(owner), r) }, false, false},
		{"both close the reading end", true, func(b *bench, r, w int, u *fds.Table) { b.Close(by(owner), r); u.Close(by(owner), r) }, false, true},
		{"both drop their full tables", true, func(b *bench, r, w int, u *fds.Table) { b.Drop(by(owner)); u.Drop(by(owner)) }, false, true},
	} {
		b := bare(t)
		r, w := b.pipe(t)
		b.Pipe(b.draw(owner)) // another pipe, that has nothing to do with it
		u := b.forks(t, b.Table)
		if c.full {
			b.writes(t, b.Table, w, full, 64)
			b.waits(t, low, b.Table, w)
			b.waits(t, second, u, w)
		} else {
			b.waits(t, low, b.Table, r)
			b.waits(t, second, u, r)
		}
		b.Write(by(owner), 3, "other")
		b.Read(by(owner), 2, 9)
		b.Close(by(owner), 2)
		c.does(b, r, w, u)
		b.right(t)
		for _, thread := range []int{low, second} {
			if woken := b.does(t, thread) == api.Runs; woken != (c.reads || c.fills) {
				t.Errorf("%s: %d runs: %t", c.what, thread, woken)
			}
		}
	}
}
