package files_test

import (
	"fmt"
	"slices"
	"strings"
	"testing"

	"gatehouse/api"
)

func TestMake(t *testing.T) {
	d := furnished(t)
	for i, l := range []string{"{1}", "{2}", "{3}", "{1 20:3}", "{1 20:0}", "{1 21:3}"} {
		path := fmt.Sprint("/d/new", i)
		w := d.draw(owner)
		d.goesWell(t, w, call{name: "Make", path: path, l: of(l), quota: 7 + i})
		o, _ := d.k.Object(w.Draw)
		if o.Kind != api.Segment || o.Quota != 7+i || o.Bytes != "" || o.Links != 1 || !same(o.Label, of(l)) {
			t.Errorf("%s: %+v", path, o)
		}
		if box := d.object(t, "/d"); box.List[len(box.List)-1] != w.Draw {
			t.Error(path, box.List)
		}
	}
	d.names(t, "/d", "new0", "new1", "new2", "new3", "new4", "new5", "x")
	d.names(t, "/", "a", "d", "h", "k", "o", "s")
	w := d.draw(owner)
	w.Draw = api.MaxId
	d.goesWell(t, w, call{name: "Make", path: "/last", l: of("{1}"), quota: 1})
	d.goesWell(t, d.draw(low), call{name: "Make", path: "/" + strings.Repeat("\xff", 32), l: of("{2}"), quota: 1})
}

func TestMkdir(t *testing.T) {
	d := furnished(t)
	for i, l := range []string{"{1}", "{1 20:3}", "{1 20:0}"} {
		path := fmt.Sprint("/new", i)
		w := d.draw(owner)
		d.goesWell(t, w, call{name: "Mkdir", path: path, l: of(l), quota: 4096 + i})
		box, _ := d.k.Object(w.Draw)
		cell, _ := d.k.Object(w.Draw + 1)
		if box.Kind != api.Container || box.Quota != 4096+i || !slices.Equal(box.List, []int{w.Draw + 1}) || !same(box.Label, of(l)) {
			t.Errorf("%s: %+v", path, box)
		}
		if cell.Kind != api.Segment || cell.Quota != 4096 || cell.Bytes != "" || cell.Links != 1 || !same(cell.Label, of(l)) {
			t.Errorf("%s: %+v", path, cell)
		}
		d.names(t, path)
	}
	d.names(t, "/", "a", "d", "h", "k", "new0", "new1", "new2", "o", "s")
}

// adding are the two calls that make something new.
func adding() []string { return []string{"Make", "Mkdir"} }

func TestMakeRefused(t *testing.T) {
	d := furnished(t)
	one := of("{1}")
	for _, name := range adding() {
		for _, path := range []string{"/a", "/d", "/s", "/h", "/d/x", "/"} {
			d.refuses(t, api.Whence{Thread: owner, Draw: -1}, call{name: name, path: path, l: api.Label{Def: 9}, quota: -1}, api.ErrExist)
		}
		for _, draw := range []int{least, -1, 0, api.MaxId + 1, highest} {
			d.refuses(t, api.Whence{Thread: owner, Draw: draw}, call{name: name, path: "/new", l: api.Label{Def: 9}, quota: -1}, api.ErrInval)
			d.refuses(t, api.Whence{Thread: low, Draw: draw}, call{name: name, path: "/o/new", l: one, quota: 5000}, api.ErrInval)
		}
		for _, draw := range []int{1, 2, owner, 10, 11, 20, 1010} {
			d.refuses(t, api.Whence{Thread: owner, Draw: draw}, call{name: name, path: "/new", l: one, quota: 5000}, api.ErrInval)
		}
		for _, l := range []api.Label{{Def: -1}, {Def: 6}, of("{*}"), of("{1 20:*}"), of("{J}")} {
			d.refuses(t, d.draw(owner), call{name: name, path: "/new", l: l, quota: 5000}, api.ErrInval)
		}
		for _, quota := range []int{0, api.MaxQuota + 1, highest} {
			d.refuses(t, d.draw(owner), call{name: name, path: "/new", l: one, quota: quota}, api.ErrInval)
		}
		d.refuses(t, d.draw(owner), call{name: name, path: "/new", l: one, quota: api.MaxQuota}, api.ErrNoSpc)
		d.refuses(t, d.draw(owner), call{name: name, path: "/new", l: of("{0}"), quota: 5000}, api.ErrAcces)
		d.refuses(t, d.draw(low), call{name: name, path: "/new", l: of("{3}"), quota: 5000}, api.ErrAcces)
		d.refuses(t, d.draw(low), call{name: name, path: "/o/new", l: one, quota: 5000}, api.ErrAcces)
		d.refuses(t, d.draw(tainted), call{name: name, path: "/new", l: of("{1 20:3}"), quota: 5000}, api.ErrAcces)
		d.refuses(t, d.draw(tainted), call{name: name, path: "/h/new", l: one, quota: 5000}, api.ErrAcces)
		d.refuses(t, d.draw(owner), call{name: name, path: "/h/new", l: one, quota: 5000}, api.ErrAcces)
	}
	for _, quota := range []int{least, -1} { // of no bytes a cell's own error says already that they are more than that
		d.refuses(t, d.draw(owner), call{name: "Make", path: "/new", l: one, quota: quota}, api.ErrNoSpc)
		d.refuses(t, d.draw(owner), call{name: "Mkdir", path: "/new", l: one, quota: quota}, api.ErrInval)
	}
	d.goesWell(t, d.draw(tainted), call{name: "Make", path: "/h/new", l: of("{1 20:3}"), quota: 5})
	d.goesWell(t, d.draw(tainted), call{name: "Mkdir", path: "/h/dir", l: of("{1 20:3}"), quota: 4200})
}

// Of a directory the second call may be refused: then what the first one made goes again.
func TestMkdirRefusedHalfway(t *testing.T) {
	d := furnished(t)
	for _, quota := range []int{1, 4000, 4095} {
		d.refuses(t, d.draw(owner), call{name: "Mkdir", path: "/new", l: of("{1}"), quota: quota}, api.ErrNoSpc)
	}
	d.refuses(t, d.draw(low), call{name: "Mkdir", path: "/new", l: of("{2}"), quota: 5000}, api.ErrAcces)
	d.refuses(t, api.Whence{Thread: owner, Draw: 9}, call{name: "Mkdir", path: "/new", l: of("{1}"), quota: 5000}, api.ErrInval)
	d.refuses(t, api.Whence{Thread: owner, Draw: api.MaxId}, call{name: "Mkdir", path: "/new", l: of("{1}"), quota: 5000}, api.ErrInval)
	if !d.k.Drawn(9) || !d.k.Drawn(api.MaxId) {
		t.Error("the second call was not reached")
	}
	d.names(t, "/", "a", "d", "h", "k", "o", "s")
}

func TestRoomOfAContainer(t *testing.T) {
	d := bare(t)
	d.makesDir(t, "/d", "{1}", 5000)
	d.refuses(t, d.draw(low), call{name: "Make", path: "/d/x", l: of("{1}"), quota: 905}, api.ErrNoSpc)
	d.goesWell(t, d.draw(low), call{name: "Make", path: "/d/x", l: of("{1}"), quota: 904})
	d.refuses(t, d.draw(low), call{name: "Make", path: "/d/y", l: of("{1}"), quota: 1}, api.ErrNoSpc)
	d.makes(t, "/y", "{1}", 1, "")
	d.refuses(t, by(low), call{name: "Link", path: "/y", to: "/d/y"}, api.ErrNoSpc)
	d.refuses(t, by(low), call{name: "Rename", path: "/y", to: "/d/y"}, api.ErrNoSpc)
	d.goesWell(t, by(low), call{name: "Link", path: "/d/x", to: "/d/y"}) // it is in the container already
	d.goesWell(t, by(low), call{name: "Remove", path: "/d/x"})
	d.refuses(t, by(low), call{name: "Link", path: "/y", to: "/d/x"}, api.ErrNoSpc)
	d.goesWell(t, by(low), call{name: "Remove", path: "/d/y"})
	d.goesWell(t, by(low), call{name: "Link", path: "/y", to: "/d/x"})
}

// As many objects as may be: a directory needs two.
func TestMostObjects(t *testing.T) {
	d := bare(t)
	for len(d.k.Ids()) < api.MaxObjects-1 {
		d.ask(t, owner, api.Call{Op: api.CallCell, P: at(1, 0), L: of("{1}"), A: 1})
	}
	d.refuses(t, d.draw(low), call{name: "Mkdir", path: "/d", l: of("{1}"), quota: 5000}, api.ErrNoSpc)
	d.goesWell(t, d.draw(low), call{name: "Make", path: "/a", l: of("{1}"), quota: 5})
	d.refuses(t, d.draw(low), call{name: "Mkdir", path: "/d", l: of("{1}"), quota: 5000}, api.ErrNoSpc)
	d.refuses(t, d.draw(low), call{name: "Make", path: "/b", l: of("{1}"), quota: 5}, api.ErrNoSpc)
	d.goesWell(t, by(low), call{name: "Link", path: "/a", to: "/b"})
}

// crowded answers a disk with a directory /d of 4074 bytes, and a file /a.
func crowded(t *testing.T) *disk {
	t.Helper()
	d := bare(t)
	d.makes(t, "/a", "{1}", 10, "a")
	d.makesDir(t, "/d", "{1}", 100000)
	for i := range 97 {
		d.makes(t, fmt.Sprintf("/d/%032d", i), "{1}", 1, "")
	}
	return d
}

func TestRoomOfADirectory(t *testing.T) {
	d := crowded(t)
	long, just := "/d/"+strings.Repeat("z", 13), "/d/"+strings.Repeat("z", 12)
	w := d.draw(low)
	for _, name := range append(adding(), "Link", "Rename") {
		d.refuses(t, w, call{name: name, path: pathOf(name, long), to: long, l: of("{1}"), quota: 5000}, api.ErrNoSpc)
	}
	d.refuses(t, d.draw(low), call{name: "Make", path: long, l: api.Label{Def: 9}, quota: -1}, api.ErrNoSpc)
	if d.k.Drawn(w.Draw) {
		t.Error("something was made for a name that there is no room for")
	}
	for _, name := range append(adding(), "Link", "Rename") {
		d.goesWell(t, d.draw(low), call{name: name, path: pathOf(name, just), to: just, l: of("{1}"), quota: 5000})
		if o, _ := d.k.Object(d.bytesOf(t, "/d").Id); len(o.Bytes) != 4096 {
			t.Error(len(o.Bytes))
		}
		d.refuses(t, by(low), call{name: "Rename", path: just, to: long}, api.ErrNoSpc)
		d.goesWell(t, by(low), call{name: "Rename", path: just, to: "/d/" + strings.Repeat("!", 12)})
		d.goesWell(t, by(low), call{name: "Remove", path: "/d/" + strings.Repeat("!", 12)})
	}
}

// pathOf is the first path of a call that gives a name.
func pathOf(name, path string) string {
	if name == "Link" || name == "Rename" {
		return "/a"
	}
	return path
}

func TestRemove(t *testing.T) {
	d := furnished(t)
	file := d.object(t, "/a")
	d.goesWell(t, by(low), call{name: "Remove", path: "/a"})
	d.names(t, "/", "d", "h", "k", "o", "s")
	if _, there := d.k.Object(file.Id); there {
		t.Error("the file is there without a name")
	}
	d.goesWell(t, by(low), call{name: "Remove", path: "/s"}) // the labels of what goes aren't asked
	d.goesWell(t, by(low), call{name: "Remove", path: "/k"})
	d.refuses(t, by(low), call{name: "Remove", path: "/d"}, api.ErrBusy)
	d.goesWell(t, by(low), call{name: "Remove", path: "/d/x"})
	box := d.object(t, "/d")
	d.goesWell(t, by(low), call{name: "Remove", path: "/d"})
	for _, id := range append(box.List, box.Id) {
		if _, there := d.k.Object(id); there {
			t.Error(id, "is there behind Remove")
		}
	}
	d.names(t, "/", "h", "o")
}

func TestRemoveRefused(t *testing.T) {
	d := furnished(t)
	d.refuses(t, by(low), call{name: "Remove", path: "/none"}, api.ErrNoEnt)
	d.refuses(t, by(low), call{name: "Remove", path: "/d/none"}, api.ErrNoEnt)
	d.refuses(t, by(low), call{name: "Remove", path: "/h"}, api.ErrAcces) // it can't be opened
	d.refuses(t, by(tainted), call{name: "Remove", path: "/h"}, api.ErrBusy)
	d.goesWell(t, by(tainted), call{name: "Remove", path: "/h/x"})
	d.refuses(t, by(tainted), call{name: "Remove", path: "/h"}, api.ErrAcces) // it can't change the root
	d.refuses(t, by(low), call{name: "Remove", path: "/h"}, api.ErrAcces)
	d.refuses(t, by(low), call{name: "Remove", path: "/o"}, api.ErrBusy)
	d.refuses(t, by(low), call{name: "Remove", path: "/o/x"}, api.ErrAcces) // nothing would be dropped, but bytes written
	d.goesWell(t, by(owner), call{name: "Remove", path: "/o/y"})
	d.refuses(t, by(low), call{name: "Remove", path: "/o/x"}, api.ErrAcces) // it would be dropped
	d.goesWell(t, by(owner), call{name: "Remove", path: "/o/x"})
	d.goesWell(t, by(low), call{name: "Remove", path: "/o"})
	d.goesWell(t, by(owner), call{name: "Remove", path: "/h"})
}

// What other containers link to stays; in one container the last name takes the file along.
func TestRemoveOneNameOfSeveral(t *testing.T) {
	d := furnished(t)
	id := d.stat(t, "/a").Id
	for _, to := range []string{"/b", "/c", "/d/a", "/d/b"} {
		d.goesWell(t, by(low), call{name: "Link", path: "/a", to: to})
	}
	links := func(want int) {
		t.Helper()
		if o, _ := d.k.Object(id); o.Links != want {
			t.Errorf("%d links, not %d", o.Links, want)
		}
	}
	links(2)
	for _, path := range []string{"/b", "/a"} {
		d.goesWell(t, by(low), call{name: "Remove", path: path})
		links(2)
	}
	d.goesWell(t, by(low), call{name: "Remove", path: "/c"})
	links(1)
	d.goesWell(t, by(low), call{name: "Remove", path: "/d/a"})
	links(1)
	d.reads(t, "/d/b", "hello")
	d.goesWell(t, by(low), call{name: "Remove", path: "/d/b"})
	links(0)
	d.names(t, "/d", "x")
}

// firstOther makes the directory /f {1}, with a file x {1}, and gives it a first entry of another label or quota, that has its bytes.
func (d *disk) firstOther(t *testing.T, l string, quota int) {
	t.Helper()
	d.makesDir(t, "/f", "{1}", 20000)
	d.makes(t, "/f/x", "{1}", 100, "")
	old := d.bytesOf(t, "/f")
	file := d.stat(t, "/f/x").Id
	d.ask(t, owner, api.Call{Op: api.CallDrop, P: old})
	d.ask(t, owner, api.Call{Op: api.CallDrop, P: at(old.In, file)})
	first := d.ask(t, owner, api.Call{Op: api.CallCell, P: at(old.In, 0), L: of(l), A: quota}).N
	again := d.ask(t, owner, api.Call{Op: api.CallCell, P: at(old.In, 0), L: of("{1}"), A: 100}).N
	errno(t, "Fill", d.k.Fill(first, bytes(t, api.Name{Name: "x", Kind: api.AFile, Id: again})), api.OK)
}

// Where the bytes can't be written, what was made or linked ahead of that goes again; what was dropped is dropped.
func TestBytesThatCantBeWritten(t *testing.T) {
	for _, kind := range []struct {
		l     string
		quota int
		want  api.Errno
	}{{"{1 20:0}", 4096, api.ErrAcces}, {"{1}", 20, api.ErrNoSpc}} {
		d := furnished(t)
		d.firstOther(t, kind.l, kind.quota)
		for _, name := range adding() {
			d.refuses(t, d.draw(low), call{name: name, path: "/f/new", l: of("{1}"), quota: 5000}, kind.want)
		}
		for _, from := range []string{"/a", "/f/x", "/d/x"} {
			d.refuses(t, by(low), call{name: "Link", path: from, to: "/f/new"}, kind.want)
		}
		for _, from := range []string{"/a", "/d/x"} {
			d.refuses(t, by(low), call{name: "Rename", path: from, to: "/f/new"}, kind.want)
		}
		d.refuses(t, by(low), call{name: "Rename", path: "/f/x", to: "/f/a-longer-name"}, kind.want)
	}
	d := furnished(t)
	d.firstOther(t, "{1 20:0}", 4096)
	file := d.stat(t, "/f/x").Id
	d.goesWell(t, by(low), call{name: "Remove", path: "/f/x"})
	if _, there := d.k.Object(file); there {
		t.Error("the file wasn't dropped")
	}
	d.names(t, "/f", "x")
	d.refuses(t, by(low), call{name: "Remove", path: "/f/x"}, api.ErrAcces)
}

func TestLink(t *testing.T) {
	d := furnished(t)
	was := d.stat(t, "/a")
	for _, to := range []string{"/b", "/d/b", "/0"} {
		d.goesWell(t, by(low), call{name: "Link", path: "/a", to: to})
		if s := d.stat(t, to); s.Id != was.Id || s.Kind != api.AFile || s.Size != 5 {
			t.Errorf("%s: %+v", to, s)
		}
		d.reads(t, to, "hello")
	}
	d.names(t, "/", "0", "a", "b", "d", "h", "k", "o", "s")
	d.names(t, "/d", "b", "x")
	if o := d.object(t, "/a"); o.Links != 2 {
		t.Error(o.Links)
	}
	d.goesWell(t, by(owner), call{name: "Link", path: "/s", to: "/h/s"})
	d.goesWell(t, by(low), call{name: "Link", path: "/s", to: "/s2"}) // in one container no label of the file is asked
	d.goesWell(t, by(low), call{name: "Link", path: "/o/x", to: "/x"})
	d.reads(t, "/x", "open")
}

func TestLinkRefused(t *testing.T) {
	d := furnished(t)
	d.refuses(t, by(low), call{name: "Link", path: "/none", to: "/b"}, api.ErrNoEnt)
	d.refuses(t, by(low), call{name: "Link", path: "/d", to: "/b"}, api.ErrIsDir)
	d.refuses(t, by(low), call{name: "Link", path: "/h", to: "/a"}, api.ErrIsDir)
	for _, to := range []string{"/a", "/d", "/h", "/k", "/d/x", "/o/y"} {
		d.refuses(t, by(low), call{name: "Link", path: "/a", to: to}, api.ErrExist)
	}
	d.refuses(t, by(low), call{name: "Link", path: "/s", to: "/d/s"}, api.ErrAcces)        // it doesn't see the file
	d.refuses(t, by(low), call{name: "Link", path: "/k", to: "/d/k"}, api.ErrAcces)        // nor change it
	d.refuses(t, by(low), call{name: "Link", path: "/a", to: "/o/a"}, api.ErrAcces)        // nor the directory
	d.refuses(t, by(low), call{name: "Link", path: "/o/x", to: "/o/z"}, api.ErrAcces)      // nor its bytes
	d.refuses(t, by(tainted), call{name: "Link", path: "/h/x", to: "/x"}, api.ErrAcces)    // what it knows doesn't come out
	d.refuses(t, by(owner), call{name: "Link", path: "/a", to: "/h/a"}, api.ErrAcces)      // less tainted than the directory
	d.refuses(t, by(tainted), call{name: "Link", path: "/a", to: "/h/none"}, api.ErrAcces) // it can't change the file
}

func TestRenameInOneDirectory(t *testing.T) {
	d := furnished(t)
	file, box := d.object(t, "/a"), d.object(t, "/d")
	d.goesWell(t, by(low), call{name: "Rename", path: "/a", to: "/z"})
	d.goesWell(t, by(low), call{name: "Rename", path: "/d", to: "/0"})
	d.goesWell(t, by(low), call{name: "Rename", path: "/h", to: "/0/../hidden"}) // it isn't opened
	d.goesWell(t, by(low), call{name: "Rename", path: "/s", to: "/t"})
	d.names(t, "/", "0", "hidden", "k", "o", "t", "z")
	d.reads(t, "/0/x", "in d")
	d.reads(t, "/hidden/x", "hidden")
	d.reads(t, "/t", "secret")
	if now := d.object(t, "/z"); !same(now, file) {
		t.Errorf("%+v became %+v", file, now)
	}
	if now := d.object(t, "/0"); !same(now, box) {
		t.Errorf("%+v became %+v", box, now)
	}
	d.refuses(t, by(low), call{name: "Rename", path: "/o/x", to: "/o/z"}, api.ErrAcces)
}

func TestRenameToAnotherDirectory(t *testing.T) {
	d := furnished(t)
	id := d.stat(t, "/a").Id
	d.goesWell(t, by(low), call{name: "Rename", path: "/a", to: "/d/a"})
	d.names(t, "/", "d", "h", "k", "o", "s")
	d.names(t, "/d", "a", "x")
	d.reads(t, "/d/a", "hello")
	if o := d.object(t, "/d/a"); o.Id != id || o.Links != 1 || slices.Contains(d.object(t, "/").List, id) {
		t.Errorf("%+v", o)
	}
	d.goesWell(t, by(owner), call{name: "Rename", path: "/o/x", to: "/x"}) // there is another name in /o
	d.names(t, "/o", "y")
	d.reads(t, "/o/y", "open")
	if o := d.object(t, "/x"); o.Links != 2 {
		t.Error(o.Links)
	}
	d.goesWell(t, by(owner), call{name: "Rename", path: "/o/y", to: "/y"}) // there is another name in the root
	d.names(t, "/o")
	if o := d.object(t, "/x"); o.Links != 1 || o.Id != d.stat(t, "/y").Id {
		t.Error(o.Links)
	}
	d.goesWell(t, by(owner), call{name: "Rename", path: "/s", to: "/h/s"})
	d.names(t, "/h", "s", "x")
}

func TestRenameRefused(t *testing.T) {
	d := furnished(t)
	d.makesDir(t, "/e", "{1}", 10000)
	d.refuses(t, by(low), call{name: "Rename", path: "/none", to: "/b"}, api.ErrNoEnt)
	for _, to := range []string{"/d", "/h", "/k", "/d/x", "/o/y", "/"} {
		d.refuses(t, by(low), call{name: "Rename", path: "/a", to: to}, api.ErrExist)
		if to != "/d" {
			d.refuses(t, by(low), call{name: "Rename", path: "/d", to: to}, api.ErrExist)
		}
	}
	for _, to := range []string{"/e/d", "/d/d", "/o/d"} {
		d.refuses(t, by(low), call{name: "Rename", path: "/d", to: to}, api.ErrInval)
	}
	d.refuses(t, by(low), call{name: "Rename", path: "/s", to: "/d/s"}, api.ErrAcces)
	d.refuses(t, by(low), call{name: "Rename", path: "/k", to: "/d/k"}, api.ErrAcces)
	d.refuses(t, by(low), call{name: "Rename", path: "/a", to: "/o/a"}, api.ErrAcces)
	d.refuses(t, by(tainted), call{name: "Rename", path: "/h/x", to: "/x"}, api.ErrAcces)
}

// What can be linked, but not taken away where it was, loses its new name again.
func TestRenameRefusedHalfway(t *testing.T) {
	d := furnished(t)
	d.refuses(t, by(low), call{name: "Rename", path: "/o/x", to: "/x"}, api.ErrAcces) // bytes of /o can't be written
	d.goesWell(t, by(owner), call{name: "Remove", path: "/o/y"})
	d.refuses(t, by(low), call{name: "Rename", path: "/o/x", to: "/x"}, api.ErrAcces) // it can't be dropped from /o
	d.goesWell(t, by(low), call{name: "Link", path: "/o/x", to: "/b"})
	d.refuses(t, by(low), call{name: "Rename", path: "/o/x", to: "/x"}, api.ErrAcces) // b stays where it is
	d.names(t, "/", "a", "b", "d", "h", "k", "o", "s")
	d.reads(t, "/b", "open")
	d.reads(t, "/o/x", "open")
}

// One name of one directory, whoever asks: nothing happens.
func TestRenameToItself(t *testing.T) {
	d := furnished(t)
	for path, to := range map[string]string{"/a": "a", "/d": "/d/../d", "/d/x": "/d//x", "/h": "/h", "/o/x": "/./o/x"} {
		d.refuses(t, by(low), call{name: "Rename", path: path, to: to}, api.OK)
	}
	d.refuses(t, by(tainted), call{name: "Rename", path: "/h/x", to: "/h/x"}, api.OK)
	root := append([]api.Name{}, mustList(t, d, "/")...)
	root = append(root, api.Name{Name: "twin", Kind: api.ADir, Id: d.stat(t, "/d").Id})
	d.lists(t, "/", root...)
	d.refuses(t, by(low), call{name: "Rename", path: "/d/x", to: "/twin/x"}, api.OK)
	d.goesWell(t, by(low), call{name: "Rename", path: "/d/x", to: "/twin/y"}) // one directory, by two names
	d.names(t, "/d", "y")
}

func mustList(t *testing.T, d *disk, path string) []api.Name {
	t.Helper()
	list, e := d.List(by(owner), path)
	errno(t, "List", e, api.OK)
	return list
}

// Two directories may have their bytes in one segment: what is in the one is in the other one. The first name goes out of what is there by then.
func TestRenameBetweenTwins(t *testing.T) {
	d := furnished(t)
	d.makesDir(t, "/p", "{1}", 10000)
	d.makesDir(t, "/q", "{1}", 10000)
	one, other := d.bytesOf(t, "/p"), d.bytesOf(t, "/q")
	d.ask(t, owner, api.Call{Op: api.CallDrop, P: other})
	d.ask(t, owner, api.Call{Op: api.CallLink, P: one, Q: at(other.In, 0)})
	d.makes(t, "/p/x", "{1}", 100, "twin")
	d.names(t, "/q", "x")
	if e := d.does(t, "twins", by(low), call{name: "Rename", path: "/p/x", to: "/q/y"}); e != api.OK {
		t.Error(e)
	}
	d.names(t, "/p", "y")
	d.names(t, "/q", "y")
	d.reads(t, "/p/y", "twin")
	d.right(t)
}
