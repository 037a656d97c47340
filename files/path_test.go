package files_test

import (
	"strings"
	"testing"

	"gatehouse/api"
)

// allRefuse does every call along the path, which is to answer this error.
func (d *disk) allRefuse(t *testing.T, thread int, path string, want api.Errno) {
	t.Helper()
	for _, c := range along(path) {
		d.refuses(t, d.draw(thread), c, want)
	}
}

// Split's error comes ahead of all others, also of those of a thread that doesn't run.
func TestPathsThatCantBe(t *testing.T) {
	d := furnished(t)
	for _, thread := range []int{owner, low, kept, ended, gone} {
		for path, want := range map[string]api.Errno{
			strings.Repeat("/", 257):                 api.ErrLong,
			"/" + strings.Repeat("n", 33):            api.ErrLong,
			"/none/" + strings.Repeat("n", 33):       api.ErrLong,
			"/a/x/" + strings.Repeat("n", 33) + "/y": api.ErrLong,
			strings.Repeat("/n", 17):                 api.ErrLong,
			"/\x00":                                  api.ErrInval,
			"/a/x/\x00":                              api.ErrInval,
			"\x00" + strings.Repeat("n", 40):         api.ErrInval,
		} {
			for _, c := range along(path) {
				if c.path == "/a" && (thread != owner && thread != low) {
					continue // the first path is wrong, too
				}
				d.refuses(t, d.draw(thread), c, want)
			}
		}
	}
}

// Paths that say the same lead to the same.
func TestPathsThatSayTheSame(t *testing.T) {
	d := furnished(t)
	for _, path := range []string{"/d/x", "d/x", "//d///x//", "./d/./x/.", "/none/../d/x", "/a/../d/x/y/..", "../../d/x", "/d/x/", strings.Repeat("/d/..", 50) + "/d/x"} {
		d.reads(t, path, "in d")
	}
	for _, path := range []string{"", "/", ".", "..", "/d/..", "none/..", "///"} {
		d.names(t, path, "a", "d", "h", "k", "o", "s")
		if s := d.stat(t, path); s.Id != 10 || s.In != 0 {
			t.Errorf("Stat(%q) = %+v", path, s)
		}
	}
}

func TestDeepPaths(t *testing.T) {
	d := bare(t)
	d.makes(t, "/a", "{1}", 10, "")
	path := ""
	for i := range 15 {
		path += "/n"
		d.makesDir(t, path, "{1}", 500000-20000*i)
	}
	d.makes(t, path+"/n", "{1}", 10, "deep")
	d.reads(t, path+"/n", "deep")
	d.allRefuse(t, owner, path+"/n/n", api.ErrLong)
	d.right(t)
}

// What isn't there, and what is no directory, on the way.
func TestNothingOnTheWay(t *testing.T) {
	d := furnished(t)
	for _, thread := range []int{owner, low} {
		for _, path := range []string{"/none/x", "/none/x/y", "/d/none/x", "/A/x", "/aa/x", "/none/\xff"} {
			d.allRefuse(t, thread, path, api.ErrNoEnt)
		}
		for _, path := range []string{"/a/x", "/a/x/y", "/d/x/y", "/s/x", "/k/x", "/a/a"} {
			d.allRefuse(t, thread, path, api.ErrNotDir)
		}
	}
}

// Directories that the thread doesn't see, or that it doesn't see into.
func TestUnseenOnTheWay(t *testing.T) {
	d := furnished(t)
	for _, path := range []string{"/h/x", "/h/none", "/h/x/y"} {
		d.allRefuse(t, low, path, api.ErrAcces)
	}
	for _, path := range []string{"/a", "/none", "/d/x", "/h/x"} {
		d.allRefuse(t, kept, path, api.ErrAcces)
		d.allRefuse(t, ended, path, api.ErrDead)
		d.allRefuse(t, gone, path, api.ErrDead)
	}
	d.refuses(t, by(kept), call{name: "List", path: "/"}, api.ErrAcces)
	d.refuses(t, by(kept), call{name: "Stat", path: "/"}, api.ErrAcces)
	d.refuses(t, by(ended), call{name: "List", path: "/"}, api.ErrDead)
	d.refuses(t, by(gone), call{name: "Stat", path: "/"}, api.ErrDead)
}

// spoilt answers a furnished disk with directories that can't be opened, with the error of each.
func spoilt(t *testing.T) (*disk, map[string]api.Errno) {
	t.Helper()
	d := furnished(t)
	empty := func(path string) api.Ref {
		d.makesDir(t, path, "{1}", 10000)
		r := d.bytesOf(t, path)
		d.ask(t, owner, api.Call{Op: api.CallDrop, P: r})
		return r
	}
	empty("/none-first")
	box := empty("/box-first").In
	d.ask(t, owner, api.Call{Op: api.CallBox, P: at(box, 0), L: of("{1}"), A: 5000})
	d.ask(t, owner, api.Call{Op: api.CallCell, P: at(box, 0), L: of("{1}"), A: 4096})
	box = empty("/secret-first").In
	d.ask(t, owner, api.Call{Op: api.CallCell, P: at(box, 0), L: of("{1 20:3}"), A: 4096})
	d.makesDir(t, "/garbage", "{1}", 10000)
	d.fill(t, "/garbage", "no directory")
	d.makesDir(t, "/zeros", "{1}", 10000)
	d.fill(t, "/zeros", strings.Repeat("\x00", 4096))
	d.makesDir(t, "/half", "{1}", 10000)
	whole := bytes(t, api.Name{Name: "x", Kind: api.AFile, Id: 5})
	d.fill(t, "/half", whole[:len(whole)-1])
	d.makesDir(t, "/twice", "{1}", 10000)
	d.fill(t, "/twice", whole+whole)
	list, _ := d.List(by(owner), "/")
	file := d.stat(t, "/a").Id
	list = append(list, api.Name{Name: "~a-file", Kind: api.ADir, Id: file}, api.Name{Name: "~nowhere", Kind: api.ADir, Id: 777777})
	d.lists(t, "/", list...)
	return d, map[string]api.Errno{
		"/none-first": api.ErrForm, "/box-first": api.ErrInval, "/garbage": api.ErrForm, "/zeros": api.ErrForm, "/half": api.ErrForm, "/twice": api.ErrForm,
		"/secret-first": api.ErrAcces, "/~a-file": api.ErrAcces, "/~nowhere": api.ErrAcces,
	}
}

func TestSpoiltOnTheWay(t *testing.T) {
	d, errs := spoilt(t)
	for path, want := range errs {
		d.allRefuse(t, low, path+"/x", want)
		d.allRefuse(t, low, path+"/x/y", want)
		for _, name := range []string{"List", "Stat", "Remove"} {
			d.refuses(t, by(low), call{name: name, path: path}, want)
		}
	}
	d.names(t, "/secret-first") // who sees that opens it: it is an empty directory
}

// A root that can't be opened.
func TestSpoiltRoot(t *testing.T) {
	d := furnished(t)
	d.fill(t, "/", "?")
	d.allRefuse(t, owner, "/a", api.ErrForm)
	d.refuses(t, by(owner), call{name: "List", path: "/"}, api.ErrForm)
	d.refuses(t, by(owner), call{name: "Stat", path: "/"}, api.ErrForm)
	d.refuses(t, d.draw(owner), call{name: "Make", path: "/", quota: 5}, api.ErrExist)
	d.refuses(t, by(owner), call{name: "Remove", path: "/"}, api.ErrInval)
	d.refuses(t, by(owner), call{name: "Read", path: "/", n: 1}, api.ErrIsDir)
	d.ask(t, owner, api.Call{Op: api.CallDrop, P: at(1, 10)})
	d.allRefuse(t, owner, "/a", api.ErrAcces)
	d.refuses(t, by(owner), call{name: "List", path: "/"}, api.ErrAcces)
	d.refuses(t, by(owner), call{name: "Stat", path: "/"}, api.ErrAcces)
}

// The root is there, is a directory, and is nobody's name, whoever asks.
func TestTheRoot(t *testing.T) {
	d := furnished(t)
	for _, thread := range []int{owner, low, tainted, kept, ended, gone} {
		for _, root := range []string{"/", "", "/a/..", "."} {
			for name, want := range map[string]api.Errno{
				"Make": api.ErrExist, "Mkdir": api.ErrExist, "Remove": api.ErrInval, "Link": api.ErrIsDir,
				"Read": api.ErrIsDir, "Write": api.ErrIsDir, "Cut": api.ErrIsDir,
			} {
				c := call{name: name, path: root, to: "/new", at: -1, n: -1, s: "x", quota: -1}
				d.refuses(t, d.draw(thread), c, want)
			}
			d.refuses(t, by(thread), call{name: "Rename", path: root, to: "/"}, api.ErrInval)
		}
	}
	for _, to := range []string{"/", "/new", "/a", "/d/x"} {
		d.refuses(t, by(low), call{name: "Rename", path: "/", to: to}, api.ErrInval)
	}
	d.refuses(t, by(low), call{name: "Rename", path: "/", to: "/none/x"}, api.ErrNoEnt)
	d.refuses(t, by(low), call{name: "Rename", path: "/", to: "/a/x"}, api.ErrNotDir)
	d.refuses(t, by(low), call{name: "Rename", path: "/a", to: "/"}, api.ErrExist)
	d.refuses(t, by(low), call{name: "Rename", path: "/d", to: "/d/.."}, api.ErrExist)
	d.refuses(t, by(low), call{name: "Link", path: "/a", to: "/"}, api.ErrExist)
}

// Of two paths the first one is gone along to its end, and what it must be is asked, ahead of the second one.
func TestFirstPathFirst(t *testing.T) {
	d := furnished(t)
	wrong := map[string]api.Errno{"/none/x": api.ErrNoEnt, "/a/x": api.ErrNotDir, "/h/x": api.ErrAcces, "/\x00": api.ErrInval, strings.Repeat("n", 33): api.ErrLong, "/none": api.ErrNoEnt}
	for first, want := range wrong {
		for second := range wrong {
			d.refuses(t, by(low), call{name: "Link", path: first, to: second}, want)
			d.refuses(t, by(low), call{name: "Rename", path: first, to: second}, want)
		}
	}
	for second, want := range wrong {
		if second == "/none" {
			continue
		}
		d.refuses(t, by(low), call{name: "Link", path: "/d", to: second}, api.ErrIsDir)
		d.refuses(t, by(low), call{name: "Rename", path: "/d", to: second}, want)
		d.refuses(t, by(low), call{name: "Link", path: "/a", to: second}, want)
	}
}

// Who doesn't see what the root lies in may open the root all the same.
func TestRootInWhatIsntSeen(t *testing.T) {
	k := populated(t)
	f := boots(t, k, api.Whence{Thread: owner, Draw: 500}, 1, of("{1 20:0}"), 9000, api.OK)
	d := &disk{Files: f, k: k, next: 1000}
	errno(t, "Make", f.Make(d.draw(kept), "/x", of("{1 20:0}"), 10), api.OK)
	errno(t, "Write", f.Write(by(kept), "/x", 0, "abc"), api.OK)
	for _, thread := range []int{kept, low, owner} {
		if s, e := f.Stat(by(thread), "/"); e != api.OK || !same(s, api.Stat{Kind: api.ADir, Id: 500, Size: 1, Label: of("{1 20:0}")}) {
			t.Errorf("Stat of %d: %+v, %d", thread, s, e)
		}
		if s, e := f.Read(by(thread), "/x", 1, 5); e != api.OK || s != "bc" {
			t.Error(thread, s, e)
		}
	}
	d.refuses(t, d.draw(low), call{name: "Make", path: "/y", l: of("{1}"), quota: 5}, api.ErrAcces)
	d.refuses(t, by(low), call{name: "Remove", path: "/x"}, api.ErrAcces)
}
