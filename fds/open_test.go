package fds_test

import (
	"strings"
	"testing"

	"gatehouse/api"
)

// modes are the ways in which a file can be opened.
func modes() []int { return []int{1, 2, 3, 6, 7} }

func TestOpenMakes(t *testing.T) {
	b := furnished(t)
	file, _ := b.f.Stat(by(owner), "/d/x")
	for fd, how := range modes() {
		w := b.draw(low)
		b.tells(t, b.Table, w, call{name: "Open", path: "/d/x", n: how}, answer{N: fd})
		o, _ := b.k.Object(w.Draw)
		if o.Kind != api.Segment || o.Quota != 48 || o.Links != 1 || !same(o.Label, of("{1}")) || o.Bytes != bytesOf(1, file.In, file.Id, 0, 1, how) {
			t.Errorf("%+v", o)
		}
		if s := numbers(b.k, 601); s[fd] != w.Draw {
			t.Error(s)
		}
	}
	if home, _ := b.k.Object(600); len(home.List) != 6 {
		t.Error(home.List)
	}
}

// What the how lets, and what it doesn't.
func TestOpenHow(t *testing.T) {
	b := furnished(t)
	for _, how := range []int{least, -8, -1, 0, 4, 5, 8, 9, 10, 11, 15, 1 << 32, 1<<32 + 1, highest} {
		for _, path := range []string{"/a", "/none", "/", "\x00", "/s"} {
			b.refuses(t, b.Table, b.draw(low), call{name: "Open", path: path, n: how}, api.ErrInval)
		}
	}
	for fd, how := range modes() {
		b.tells(t, b.Table, b.draw(low), call{name: "Open", path: "/a", n: how}, answer{N: fd})
		if how&1 == 0 {
			b.refuses(t, b.Table, by(low), call{name: "Read", fd: fd, n: 1}, api.ErrBadF)
			b.refuses(t, b.Table, by(low), call{name: "Read", fd: fd, n: -1}, api.ErrBadF)
		} else {
			b.reads(t, b.Table, fd, 1, "h")
		}
		if how&2 == 0 {
			b.refuses(t, b.Table, by(low), call{name: "Write", fd: fd, s: "x"}, api.ErrBadF)
			b.refuses(t, b.Table, by(low), call{name: "Write", fd: fd}, api.ErrBadF)
		} else {
			b.writes(t, b.Table, fd, "", 0)
		}
	}
}

// The errors of the path, in the order in which the files tell them, ahead of those of the table.
func TestOpenRefused(t *testing.T) {
	b := furnished(t)
	b.forks(t, b.Table)
	for _, full := range []bool{false, true} {
		for path, want := range map[string]api.Errno{
			"/none": api.ErrNoEnt, "/none/x": api.ErrNoEnt, "/a/x": api.ErrNotDir, "/": api.ErrIsDir, "/d": api.ErrIsDir, "/d/..": api.ErrIsDir, "\x00": api.ErrInval, "": api.ErrIsDir,
			"/s": api.ErrAcces, "/" + strings.Repeat("n", 33): api.ErrLong,
		} {
			for _, how := range modes() {
				for _, draw := range []int{b.draw(low).Draw, -1, 601} {
					b.refuses(t, b.Table, api.Whence{Thread: low, Draw: draw}, call{name: "Open", path: path, n: how}, want)
				}
			}
		}
		for _, how := range modes() { // /k may be seen, and not altered
			c := call{name: "Open", path: "/k", n: how}
			switch {
			case how&2 != 0:
				b.refuses(t, b.Table, b.draw(low), c, api.ErrAcces)
				b.refuses(t, b.Table, by(low), c, api.ErrAcces)
			case full:
				b.refuses(t, b.Table, b.draw(low), c, api.ErrMFile)
			}
		}
		for !full {
			if _, e := b.Open(b.draw(owner), "/a", 1); e == api.ErrMFile {
				break
			}
		}
	}
	b.tells(t, b.Table, by(owner), call{name: "Close", fd: 2}, answer{})
	for _, draw := range []int{least, -1, 0, 1, 10, 601, 20, api.MaxId + 1, highest} {
		b.refuses(t, b.Table, api.Whence{Thread: low, Draw: draw}, call{name: "Open", path: "/a", n: 1}, api.ErrInval)
	}
	b.tells(t, b.Table, b.draw(low), call{name: "Open", path: "/k", n: 1}, answer{N: 2})
	b.reads(t, b.Table, 2, 9, "kept")
}

// A thread that alters the table, and isn't cleared for its label, makes nothing new there.
func TestNotCleared(t *testing.T) {
	b := furnished(t)
	x := b.family(t, 640, "{1 20:3}", 5000)
	b.tells(t, x, b.draw(owner), call{name: "Open", path: "/s", n: 3}, answer{})
	for _, c := range []call{{name: "Open", path: "/s", n: 3}, {name: "Pipe"}, {name: "Fork"}} {
		b.refuses(t, x, b.draw(narrow), c, api.ErrAcces)
	}
	b.tells(t, x, by(narrow), call{name: "Read", fd: 0, n: 9}, answer{S: "secret"})
	b.tells(t, x, by(narrow), call{name: "Dup", fd: 0}, answer{N: 1})
	b.tells(t, x, by(narrow), call{name: "Drop"}, answer{})
}

// A table is one's own business, a file another one: descriptors are no rights.
func TestDescriptorsAreNoRights(t *testing.T) {
	b := furnished(t)
	s, k := b.opens(t, "/s", 3), b.opens(t, "/k", 3)
	b.refuses(t, b.Table, by(low), call{name: "Read", fd: s, n: 9}, api.ErrAcces)
	b.refuses(t, b.Table, by(low), call{name: "Read", fd: s, n: 0}, api.ErrAcces)
	b.refuses(t, b.Table, by(low), call{name: "Write", fd: s, s: "x"}, api.ErrAcces)
	b.refuses(t, b.Table, by(low), call{name: "Write", fd: s}, api.ErrAcces)
	b.tells(t, b.Table, by(low), call{name: "Read", fd: k, n: 2}, answer{S: "ke"})
	b.refuses(t, b.Table, by(low), call{name: "Write", fd: k, s: "x"}, api.ErrAcces)
	b.refuses(t, b.Table, by(low), call{name: "Write", fd: k}, api.ErrAcces)
	b.tells(t, b.Table, by(low), call{name: "Seek", fd: s, n: 3}, answer{}) // the place is the table's
	b.reads(t, b.Table, s, 9, "ret")
	b.reads(t, b.Table, k, 9, "pt")
	b.writes(t, b.Table, k, "!", 1)
	b.file(t, "/k", "kept!")
}
