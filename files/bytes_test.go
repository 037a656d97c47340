package files_test

import (
	"slices"
	"strings"
	"testing"

	"gatehouse/api"
)

func TestRead(t *testing.T) {
	d := furnished(t)
	for _, c := range []struct {
		at, n int
		want  string
	}{
		{0, 5, "hello"}, {0, 6, "hello"}, {0, highest, "hello"}, {0, 0, ""}, {0, 1, "h"}, {1, 3, "ell"}, {4, 1, "o"}, {4, 9, "o"}, {5, 0, ""}, {5, 1, ""},
		{6, 0, ""}, {6, 5, ""}, {4096, 1, ""}, {highest, 0, ""}, {highest, highest, ""}, {2, highest, "llo"}, {2, highest - 1, "llo"},
	} {
		for _, thread := range []int{owner, low, tainted} {
			if a := d.goesWell(t, by(thread), call{name: "Read", path: "/a", at: c.at, n: c.n}); a.S != c.want {
				t.Errorf("Read of %d from %d: %q, not %q", c.n, c.at, a.S, c.want)
			}
		}
	}
	d.makes(t, "/full", "{1}", 4096, strings.Repeat("ab", 2048))
	if a := d.goesWell(t, by(low), call{name: "Read", path: "/full", at: 4095, n: 4096}); a.S != "b" {
		t.Errorf("%q", a.S)
	}
	d.reads(t, "/full", strings.Repeat("ab", 2048))
	d.reads(t, "/h/x", "hidden")
	if a := d.goesWell(t, by(tainted), call{name: "Read", path: "/s", n: 9}); a.S != "secret" {
		t.Errorf("%q", a.S)
	}
}

func TestReadRefused(t *testing.T) {
	d := furnished(t)
	for _, n := range []int{least, -1} {
		for _, path := range []string{"/a", "/s"} { // of the secret one the thread would be refused, too
			d.refuses(t, by(low), call{name: "Read", path: path, at: n, n: 1}, api.ErrInval)
			d.refuses(t, by(low), call{name: "Read", path: path, at: 0, n: n}, api.ErrInval)
			d.refuses(t, by(low), call{name: "Read", path: path, at: n, n: n}, api.ErrInval)
		}
		d.refuses(t, by(low), call{name: "Read", path: "/d", at: n, n: n}, api.ErrIsDir)
		d.refuses(t, by(low), call{name: "Read", path: "/none", at: n, n: n}, api.ErrNoEnt)
	}
	d.refuses(t, by(low), call{name: "Read", path: "/s", n: 1}, api.ErrAcces)
	d.refuses(t, by(low), call{name: "Read", path: "/s", n: 0}, api.ErrAcces)
	d.refuses(t, by(low), call{name: "Read", path: "/h", n: 1}, api.ErrIsDir)
}

func TestWrite(t *testing.T) {
	d := bare(t)
	d.makes(t, "/a", "{1}", 20, "")
	for _, c := range []struct {
		at      int
		s, want string
	}{
		{0, "hello", "hello"}, {1, "u", "hullo"}, {5, "!", "hullo!"}, {5, "??", "hullo??"}, {9, "x", "hullo??\x00\x00x"},
		{0, "", "hullo??\x00\x00x"}, {15, "", "hullo??\x00\x00x"}, {4096, "", "hullo??\x00\x00x"}, {19, "z", "hullo??\x00\x00x" + strings.Repeat("\x00", 9) + "z"},
		{0, strings.Repeat("a", 20), strings.Repeat("a", 20)},
	} {
		d.goesWell(t, by(low), call{name: "Write", path: "/a", at: c.at, s: c.s})
		d.reads(t, "/a", c.want)
	}
	d.makes(t, "/full", "{1}", 5000, "")
	d.goesWell(t, by(low), call{name: "Write", path: "/full", at: 4095, s: "z"})
	d.reads(t, "/full", strings.Repeat("\x00", 4095)+"z")
	whole := strings.Repeat("0123456789abcdef", 256)
	d.goesWell(t, by(low), call{name: "Write", path: "/full", s: whole})
	d.goesWell(t, by(low), call{name: "Write", path: "/full", at: 4096})
	d.reads(t, "/full", whole)
}

func TestWriteRefused(t *testing.T) {
	d := furnished(t)
	big := strings.Repeat("x", 4097)
	for _, at := range []int{least, -1} {
		for _, path := range []string{"/a", "/s", "/k"} {
			d.refuses(t, by(low), call{name: "Write", path: path, at: at, s: "x"}, api.ErrInval)
			d.refuses(t, by(low), call{name: "Write", path: path, at: at, s: big}, api.ErrInval)
		}
		d.refuses(t, by(low), call{name: "Write", path: "/d", at: at, s: "x"}, api.ErrIsDir)
		d.refuses(t, by(low), call{name: "Write", path: "/none", at: at, s: "x"}, api.ErrNoEnt)
	}
	for _, c := range []call{{s: big}, {at: 4097}, {at: 4096, s: "x"}, {at: 1, s: big[:4096]}, {at: highest}, {at: highest, s: "x"}, {at: highest, s: big}, {at: highest - 4096, s: big}} {
		c.name = "Write"
		for path, want := range map[string]api.Errno{"/a": api.ErrNoSpc, "/k": api.ErrNoSpc, "/s": api.ErrAcces} {
			c.path = path
			d.refuses(t, by(low), c, want)
		}
	}
	for _, c := range []call{{s: big[:101]}, {at: 100, s: "x"}, {at: 99, s: "xx"}, {at: 4095, s: "x"}} {
		c.name = "Write"
		for path, want := range map[string]api.Errno{"/a": api.ErrNoSpc, "/k": api.ErrAcces, "/s": api.ErrAcces} {
			c.path = path
			d.refuses(t, by(low), c, want)
		}
	}
	for _, s := range []string{"", "x"} { // Resize is asked in any case
		for _, path := range []string{"/k", "/s"} {
			d.refuses(t, by(low), call{name: "Write", path: path, s: s}, api.ErrAcces)
		}
		for _, path := range []string{"/a", "/k", "/d/x"} {
			d.refuses(t, by(tainted), call{name: "Write", path: path, s: s}, api.ErrAcces)
		}
	}
	d.goesWell(t, by(tainted), call{name: "Write", path: "/s", at: 6, s: "!"})
	d.reads(t, "/s", "secret!")
}

func TestCut(t *testing.T) {
	d := furnished(t)
	for _, c := range []struct {
		n    int
		want string
	}{{5, "hello"}, {3, "hel"}, {6, "hel\x00\x00\x00"}, {0, ""}, {2, "\x00\x00"}, {100, strings.Repeat("\x00", 100)}, {0, ""}} {
		d.goesWell(t, by(low), call{name: "Cut", path: "/a", n: c.n})
		d.reads(t, "/a", c.want)
	}
	d.makes(t, "/full", "{1}", 5000, "x")
	d.goesWell(t, by(low), call{name: "Cut", path: "/full", n: 4096})
	d.reads(t, "/full", "x"+strings.Repeat("\x00", 4095))
}

func TestCutRefused(t *testing.T) {
	d := furnished(t)
	for _, path := range []string{"/a", "/s", "/k"} { // ahead of what the kernel would say
		for _, n := range []int{least, -1} {
			d.refuses(t, by(low), call{name: "Cut", path: path, n: n}, api.ErrInval)
		}
		for _, n := range []int{4097, highest} {
			d.refuses(t, by(low), call{name: "Cut", path: path, n: n}, api.ErrNoSpc)
		}
	}
	for _, n := range []int{101, 4096} {
		d.refuses(t, by(low), call{name: "Cut", path: "/a", n: n}, api.ErrNoSpc)
	}
	for _, n := range []int{0, 4, 6, 101, 4096} {
		d.refuses(t, by(low), call{name: "Cut", path: "/s", n: n}, api.ErrAcces)
		d.refuses(t, by(low), call{name: "Cut", path: "/k", n: n}, api.ErrAcces)
		d.refuses(t, by(tainted), call{name: "Cut", path: "/a", n: n}, api.ErrAcces)
	}
	for _, n := range []int{-1, 0, 4097} {
		d.refuses(t, by(low), call{name: "Cut", path: "/d", n: n}, api.ErrIsDir)
		d.refuses(t, by(low), call{name: "Cut", path: "/none", n: n}, api.ErrNoEnt)
	}
}

func TestStat(t *testing.T) {
	d := furnished(t)
	id := func(path string) int { return d.stat(t, path).Id }
	want := map[string]api.Stat{
		"/":    {Kind: api.ADir, Id: 10, In: 0, Size: 6, Label: of("{1}")},
		"/a":   {Kind: api.AFile, Id: 1010, In: 10, Size: 5, Label: of("{1}")},
		"/s":   {Kind: api.AFile, Id: 1020, In: 10, Size: 6, Label: of("{1 20:3}")},
		"/k":   {Kind: api.AFile, Id: 1030, In: 10, Size: 4, Label: of("{1 20:0}")},
		"/d":   {Kind: api.ADir, Id: 1040, In: 10, Size: 1, Label: of("{1}")},
		"/d/x": {Kind: api.AFile, Id: 1050, In: 1040, Size: 4, Label: of("{1}")},
		"/h":   {Kind: api.ADir, Id: 1060, In: 10, Size: 1, Label: of("{1 20:3}")},
		"/h/x": {Kind: api.AFile, Id: 1070, In: 1060, Size: 6, Label: of("{1 20:3}")},
		"/o":   {Kind: api.ADir, Id: 1080, In: 10, Size: 2, Label: of("{1 20:0}")},
		"/o/y": {Kind: api.AFile, Id: 1090, In: id("/o"), Size: 4, Label: of("{1}")},
	}
	for path, s := range want {
		for _, thread := range []int{owner, low, tainted} {
			if strings.ContainsAny(path, "hs") && thread == low {
				d.refuses(t, by(low), call{name: "Stat", path: path}, api.ErrAcces)
				continue
			}
			if got, e := d.Stat(by(thread), path); e != api.OK || !same(got, s) {
				t.Errorf("Stat(%q) of %d: %+v, %d, not %+v", path, thread, got, e, s)
			}
		}
	}
	d.refuses(t, by(low), call{name: "Stat", path: "/none"}, api.ErrNoEnt)
	d.refuses(t, by(low), call{name: "Stat", path: "/d/none"}, api.ErrNoEnt)
}

func TestList(t *testing.T) {
	d := furnished(t)
	want := map[string][]api.Name{
		"/": {{Name: "a", Kind: api.AFile, Id: 1010}, {Name: "d", Kind: api.ADir, Id: 1040}, {Name: "h", Kind: api.ADir, Id: 1060}, {Name: "k", Kind: api.AFile, Id: 1030},
			{Name: "o", Kind: api.ADir, Id: 1080}, {Name: "s", Kind: api.AFile, Id: 1020}},
		"/d": {{Name: "x", Kind: api.AFile, Id: 1050}},
		"/h": {{Name: "x", Kind: api.AFile, Id: 1070}},
		"/o": {{Name: "x", Kind: api.AFile, Id: 1090}, {Name: "y", Kind: api.AFile, Id: 1090}},
	}
	for path, list := range want {
		for _, thread := range []int{owner, low, tainted} {
			if path == "/h" && thread == low {
				d.refuses(t, by(low), call{name: "List", path: path}, api.ErrAcces)
				continue
			}
			if got, e := d.List(by(thread), path); e != api.OK || !slices.Equal(got, list) {
				t.Errorf("List(%q) of %d: %v, %d, not %v", path, thread, got, e, list)
			}
		}
	}
	for _, path := range []string{"/none", "/d/none"} {
		d.refuses(t, by(low), call{name: "List", path: path}, api.ErrNoEnt)
	}
	for _, path := range []string{"/a", "/s", "/d/x"} {
		d.refuses(t, by(low), call{name: "List", path: path}, api.ErrNotDir)
	}
}

// Entries whose numbers are something else than the entry says, or nothing: the kernel's errors by the library's names.
func TestEntriesThatSayOtherwise(t *testing.T) {
	d := furnished(t)
	box := d.stat(t, "/d").Id
	inner := d.stat(t, "/d/x").Id
	d.lists(t, "/", append(mustList(t, d, "/"),
		api.Name{Name: "~box", Kind: api.AFile, Id: box},      // a directory, called a file
		api.Name{Name: "~else", Kind: api.AFile, Id: inner},   // a file, but of another container
		api.Name{Name: "~nowhere", Kind: api.AFile, Id: 777},  // nothing
		api.Name{Name: "~thread", Kind: api.AFile, Id: owner}, // of another container
	)...)
	for path, want := range map[string]api.Errno{"/~box": api.ErrInval, "/~else": api.ErrAcces, "/~nowhere": api.ErrAcces, "/~thread": api.ErrAcces} {
		for _, c := range []call{{name: "Read", n: 1}, {name: "Write", s: "x"}, {name: "Cut", n: 1}, {name: "Stat"}, {name: "Link", to: "/o/new"}, {name: "Rename", to: "/d/new"}, {name: "Link", to: "/d/new"}} {
			c.path = path
			if path == "/~box" && c.name == "Link" && c.to == "/o/new" {
				d.refuses(t, by(low), c, api.ErrAcces) // the label of /o is asked ahead of the kind
				continue
			}
			if path == "/~else" && strings.HasPrefix(c.to, "/d/") {
				continue // there a name has the number: the kernel isn't asked
			}
			d.refuses(t, by(low), c, want)
		}
		if path == "/~box" {
			continue // it has another name in the root
		}
		d.refuses(t, by(low), call{name: "Remove", path: path}, api.ErrAcces)
	}
	d.goesWell(t, by(low), call{name: "Remove", path: "/~box"})
	d.reads(t, "/d/x", "in d")
}

// A call by which its own thread goes is done: there is nobody who could write the bytes.
func TestRemoveOfOneself(t *testing.T) {
	d := furnished(t)
	box := d.stat(t, "/d").Id
	d.goesWell(t, by(low), call{name: "Remove", path: "/d/x"})
	me := d.ask(t, owner, api.Call{Op: api.CallFlow, P: at(box, 0), L: of("{1}"), M: of("{2}"), A: 1}).N
	d.goesWell(t, by(me), call{name: "Remove", path: "/d"})
	for _, id := range []int{box, me} {
		if _, there := d.k.Object(id); there {
			t.Error(id, "is there")
		}
	}
	d.refuses(t, by(me), call{name: "List", path: "/"}, api.ErrDead)
	d.names(t, "/", "a", "d", "h", "k", "o", "s")
	d.refuses(t, by(low), call{name: "List", path: "/d"}, api.ErrAcces)
}
