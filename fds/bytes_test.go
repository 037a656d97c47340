package fds_test

import (
	"strings"
	"testing"

	"gatehouse/api"
	"gatehouse/kern"
)

func TestReadOfFiles(t *testing.T) {
	b := furnished(t)
	fd := b.opens(t, "/a", 1)
	place := func(want int) {
		t.Helper()
		if o := numbers(b.k, numbers(b.k, 601)[fd]); o[3] != want {
			t.Errorf("place %d, not %d", o[3], want)
		}
	}
	for _, c := range []struct {
		n     int
		want  string
		place int
	}{{0, "", 0}, {2, "he", 2}, {0, "", 2}, {9, "llo", 5}, {9, "", 5}, {0, "", 5}, {highest, "", 5}} {
		b.reads(t, b.Table, fd, c.n, c.want)
		place(c.place)
	}
	for _, at := range []int{6, 4095, 4096, 4097, 1 << 40} { // beyond the end there is nothing, and the place stays
		b.tells(t, b.Table, by(low), call{name: "Seek", fd: fd, n: at}, answer{})
		b.reads(t, b.Table, fd, 9, "")
		b.reads(t, b.Table, fd, highest, "")
		place(at)
	}
	b.tells(t, b.Table, by(low), call{name: "Seek", fd: fd, n: 1}, answer{})
	b.reads(t, b.Table, fd, highest, "ello")
	errno(t, "Cut", b.f.Cut(by(owner), "/a", 2), api.OK)
	b.reads(t, b.Table, fd, 1, "")
	place(5)
	errno(t, "Write", b.f.Write(by(owner), "/a", 0, "longer than ever"), api.OK)
	b.reads(t, b.Table, fd, 4, "r th")
	for _, n := range []int{least, -1} {
		b.refuses(t, b.Table, by(low), call{name: "Read", fd: fd, n: n}, api.ErrInval)
	}
}

func TestWriteOfFiles(t *testing.T) {
	b := furnished(t)
	fd := b.opens(t, "/e", 3)
	for _, c := range []struct {
		seek int
		s    string
		want string
	}{{-1, "hello", "hello"}, {-1, "!", "hello!"}, {1, "u", "hullo!"}, {-1, "", "hullo!"}, {-1, "LLO??", "huLLO??"}, {9, "x", "huLLO??\x00\x00x"}, {300, "", "huLLO??\x00\x00x"}, {1 << 40, "", "huLLO??\x00\x00x"}, {0, "", "huLLO??\x00\x00x"}, {-1, "H", "HuLLO??\x00\x00x"}} {
		if c.seek >= 0 {
			b.tells(t, b.Table, by(low), call{name: "Seek", fd: fd, n: c.seek}, answer{})
		}
		b.writes(t, b.Table, fd, c.s, len(c.s))
		b.file(t, "/e", c.want)
	}
	whole := strings.Repeat("0123456789abcdef", 256)
	b.tells(t, b.Table, by(low), call{name: "Seek", fd: fd}, answer{})
	b.writes(t, b.Table, fd, whole, 4096)
	b.writes(t, b.Table, fd, "", 0)
	b.refuses(t, b.Table, by(low), call{name: "Write", fd: fd, s: "x"}, api.ErrNoSpc)
	b.tells(t, b.Table, by(low), call{name: "Seek", fd: fd, n: 4095}, answer{})
	b.refuses(t, b.Table, by(low), call{name: "Write", fd: fd, s: "xy"}, api.ErrNoSpc)
	b.writes(t, b.Table, fd, "z", 1)
	b.file(t, "/e", whole[:4095]+"z")
}

// All of it, or nothing.
func TestWriteOfFilesRefused(t *testing.T) {
	b := furnished(t)
	a, k := b.opens(t, "/a", 2), b.opens(t, "/k", 2)
	big := strings.Repeat("x", 4097)
	for _, c := range []struct {
		seek  int
		s     string
		other api.Errno // of a thread that doesn't alter the file
	}{{0, big, api.ErrNoSpc}, {1, big[:4096], api.ErrNoSpc}, {4096, "x", api.ErrNoSpc}, {1 << 40, "x", api.ErrNoSpc}, {1 << 40, big, api.ErrNoSpc}, {0, big[:101], api.ErrAcces}, {100, "x", api.ErrAcces}, {99, "xy", api.ErrAcces}, {4095, "x", api.ErrAcces}} {
		for fd, want := range map[int]api.Errno{a: api.ErrNoSpc, k: c.other} {
			b.tells(t, b.Table, by(low), call{name: "Seek", fd: fd, n: c.seek}, answer{})
			b.refuses(t, b.Table, by(low), call{name: "Write", fd: fd, s: c.s}, want)
		}
	}
	b.file(t, "/a", "hello")
}

// With AtEnd bytes stand from the end on, wherever the place is; it moves there.
func TestAtEnd(t *testing.T) {
	for _, how := range []int{6, 7} {
		b := furnished(t)
		fd, other := b.opens(t, "/a", how), b.opens(t, "/a", 3)
		place := func(want int) {
			t.Helper()
			if o := numbers(b.k, numbers(b.k, 601)[fd]); o[3] != want {
				t.Errorf("place %d, not %d", o[3], want)
			}
		}
		b.writes(t, b.Table, fd, "!", 1)
		place(6)
		for _, at := range []int{0, 3, 50, 4096, 1 << 40} {
			b.tells(t, b.Table, by(low), call{name: "Seek", fd: fd, n: at}, answer{})
			place(at)
			b.writes(t, b.Table, fd, "?", 1)
		}
		b.file(t, "/a", "hello!?????")
		place(11)
		b.writes(t, b.Table, other, "H", 1)
		b.writes(t, b.Table, fd, "..", 2)
		b.file(t, "/a", "Hello!?????..")
		b.tells(t, b.Table, by(low), call{name: "Seek", fd: fd, n: 2}, answer{})
		b.writes(t, b.Table, fd, "", 0)
		place(13)
		if how == 7 {
			b.tells(t, b.Table, by(low), call{name: "Seek", fd: fd, n: 1}, answer{})
			b.reads(t, b.Table, fd, 4, "ello")
			b.writes(t, b.Table, fd, "end", 3)
			b.reads(t, b.Table, fd, 4, "")
		}
		big := strings.Repeat("x", 4096)
		b.refuses(t, b.Table, by(low), call{name: "Write", fd: fd, s: big}, api.ErrNoSpc)
		b.refuses(t, b.Table, by(low), call{name: "Write", fd: fd, s: big[:95]}, api.ErrNoSpc) // the quota
	}
}

func TestSeek(t *testing.T) {
	b := furnished(t)
	fd := b.opens(t, "/a", 1)
	r, w := b.pipe(t)
	for _, at := range []int{0, 1, 4096, 1<<40 - 1, 1 << 40} {
		b.tells(t, b.Table, by(low), call{name: "Seek", fd: fd, n: at}, answer{})
		if o := numbers(b.k, numbers(b.k, 601)[fd]); o[3] != at {
			t.Error(at, o)
		}
	}
	for _, at := range []int{least, -1, 1<<40 + 1, highest} {
		b.refuses(t, b.Table, by(low), call{name: "Seek", fd: fd, n: at}, api.ErrInval)
		for _, end := range []int{r, w} {
			b.refuses(t, b.Table, by(low), call{name: "Seek", fd: end, n: at}, api.ErrSPipe)
		}
	}
	errno(t, "Remove", b.f.Remove(by(owner), "/a"), api.OK)
	b.tells(t, b.Table, by(low), call{name: "Seek", fd: fd, n: 3}, answer{}) // the file isn't asked
}

// A file that isn't in its container any more, or whose container isn't seen, is no file of that descriptor.
func TestFilesThatWent(t *testing.T) {
	b := furnished(t)
	errno(t, "Link", b.f.Link(by(owner), "/d/x", "/d/y"), api.OK)
	errno(t, "Link", b.f.Link(by(owner), "/d/x", "/z"), api.OK)
	inner, outer := b.opens(t, "/d/x", 3), b.opens(t, "/z", 3)
	is := func(fd int, want api.Errno) {
		t.Helper()
		if want == api.OK {
			b.tells(t, b.Table, by(low), call{name: "Read", fd: fd, n: 0}, answer{})
			b.tells(t, b.Table, by(low), call{name: "Write", fd: fd}, answer{})
			return
		}
		for _, n := range []int{0, 1} {
			b.refuses(t, b.Table, by(low), call{name: "Read", fd: fd, n: n}, want)
		}
		for _, s := range []string{"", "x", strings.Repeat("x", 4097)} {
			b.refuses(t, b.Table, by(low), call{name: "Write", fd: fd, s: s}, want)
		}
		b.refuses(t, b.Table, by(low), call{name: "Read", fd: fd, n: -1}, api.ErrInval)
	}
	errno(t, "Remove", b.f.Remove(by(owner), "/d/x"), api.OK) // it has another name there
	is(inner, api.OK)
	errno(t, "Rename", b.f.Rename(by(owner), "/d/y", "/w"), api.OK)
	is(inner, api.ErrNoEnt)
	is(outer, api.OK)
	errno(t, "Remove", b.f.Remove(by(owner), "/w"), api.OK)
	is(outer, api.OK)
	errno(t, "Remove", b.f.Remove(by(owner), "/z"), api.OK)
	is(outer, api.ErrNoEnt)
	errno(t, "Mkdir", b.f.Mkdir(b.draw(owner), "/h", of("{1 20:3}"), 9000), api.OK)
	errno(t, "Make", b.f.Make(b.draw(owner), "/h/x", of("{1 20:3}"), 10), api.OK)
	hidden, at := b.opens(t, "/h/x", 3), b.opens(t, "/s", 3)
	is(hidden, api.ErrNoEnt) // whoever doesn't see the container doesn't see that it is there
	is(at, api.ErrAcces)
	b.writes(t, b.Table, hidden, "x", 1)
	for _, fd := range []int{inner, outer, hidden, at} {
		b.tells(t, b.Table, by(low), call{name: "Close", fd: fd}, answer{})
	}
}

// Files of another kernel than the tables' are found nowhere.
func TestFilesOfAnotherKernel(t *testing.T) {
	b := furnished(t)
	k, _ := kern.New(api.Boot{Root: 1, Console: 2, Thread: owner})
	x := boots(t, b.f, k, api.Whence{Thread: owner, Draw: 600}, 1, of("{1}"), 5000, api.OK)
	other := &bench{Table: x, f: b.f, k: k, next: 1000}
	other.refuses(t, x, other.draw(owner), call{name: "Open", path: "/a", n: 3}, api.ErrAcces)
	other.tells(t, x, other.draw(owner), call{name: "Open", path: "/a", n: 1}, answer{})
	other.refuses(t, x, by(owner), call{name: "Read", n: 1}, api.ErrNoEnt)
}
