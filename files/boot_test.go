package files_test

import (
	"testing"

	"gatehouse/api"
	"gatehouse/files"
	"gatehouse/kern"
)

func TestExampleOfFiles(t *testing.T) {
	d := bare(t)
	errno(t, "Make", d.Make(d.draw(owner), "/a", of("{1}"), 100), api.OK)
	errno(t, "Write", d.Write(by(owner), "/a", 2, "xy"), api.OK)
	if s, e := d.Read(by(owner), "/a", 0, 9); s != "\x00\x00xy" || e != api.OK {
		t.Errorf("Read = %q, %d", s, e)
	}
	errno(t, "Link", d.Link(by(owner), "/a", "/b"), api.OK)
	errno(t, "Remove", d.Remove(by(owner), "/a"), api.OK)
	if s, e := d.Read(by(owner), "/b", 2, 2); s != "xy" || e != api.OK {
		t.Errorf("Read = %q, %d", s, e)
	}
	errno(t, "Remove", d.Remove(by(owner), "/b"), api.OK)
	if s, e := d.Read(by(owner), "/b", 2, 2); s != "" || e != api.ErrNoEnt {
		t.Errorf("Read = %q, %d", s, e)
	}
}

func TestExampleOfDirectories(t *testing.T) {
	d := bare(t)
	d.makes(t, "/a", "{1}", 100, "")
	errno(t, "Mkdir", d.Mkdir(d.draw(owner), "/d", of("{1}"), 5000), api.OK)
	errno(t, "Make", d.Make(d.draw(owner), "/d/x", of("{1}"), 10), api.OK)
	errno(t, "Remove", d.Remove(by(owner), "/d"), api.ErrBusy)
	errno(t, "Make", d.Make(d.draw(owner), "/a/x", of("{1}"), 10), api.ErrNotDir)
	errno(t, "Mkdir", d.Mkdir(d.draw(owner), "/e", of("{1}"), 4000), api.ErrNoSpc)
}

// boots tells whether Boot answers that error, and what it leaves behind.
func boots(t *testing.T, k *kern.Kernel, w api.Whence, in int, l api.Label, quota int, want api.Errno) *files.Files {
	t.Helper()
	before := ""
	if k != nil {
		before = state(k)
	}
	f, e := files.Boot(k, w, in, l, quota)
	if e != want || (f != nil) != (want == api.OK) {
		t.Errorf("Boot of %+v in %d, quota %d: %v, error %d, not %d", w, in, quota, f, e, want)
	}
	if k != nil && want != api.OK && state(k) != before {
		t.Errorf("Boot of %+v in %d, quota %d: error %d, and all changed%s", w, in, quota, e, unlike(before, state(k)))
	}
	return f
}

func TestBootMakes(t *testing.T) {
	for _, quota := range []int{4096, 4097, 1 << 20, 1<<40 - 10} {
		for _, l := range []string{"{1}", "{1 20:3}", "{1 20:0}"} {
			k := populated(t)
			f := boots(t, k, api.Whence{Thread: owner, Draw: 500}, 1, of(l), quota, api.OK)
			box, _ := k.Object(500)
			cell, _ := k.Object(501)
			if box.Kind != api.Container || box.Quota != quota || len(box.List) != 1 || box.List[0] != 501 || !same(box.Label, of(l)) {
				t.Errorf("%+v", box)
			}
			if cell.Kind != api.Segment || cell.Quota != 4096 || cell.Bytes != "" || cell.Links != 1 || !same(cell.Label, of(l)) {
				t.Errorf("%+v", cell)
			}
			if root, _ := k.Object(1); root.List[len(root.List)-1] != 500 {
				t.Error(root.List)
			}
			if list, e := f.List(by(owner), "/"); e != api.OK || len(list) > 0 {
				t.Error(list, e)
			}
		}
	}
}

func TestBootRefused(t *testing.T) {
	one := of("{1}")
	boots(t, nil, api.Whence{Thread: owner, Draw: 500}, 1, one, 5000, api.ErrNone)
	boots(t, nil, api.Whence{Thread: gone, Draw: -1}, -1, api.Label{Def: 9}, 0, api.ErrNone)
	k := populated(t)
	for _, thread := range []int{ended, gone, 1, 0, least, highest} {
		boots(t, k, api.Whence{Thread: thread, Draw: 500}, 1, one, 5000, api.ErrDead)
	}
	for _, in := range []int{least, -1, 0, 2, owner, 77, api.MaxId, highest} {
		boots(t, k, api.Whence{Thread: owner, Draw: 500}, in, one, 5000, api.ErrAcces)
	}
	for _, l := range []api.Label{{Def: -1}, {Def: 6}, of("{*}"), of("{1 20:*}"), of("{J}")} {
		boots(t, k, api.Whence{Thread: owner, Draw: 500}, 1, l, 5000, api.ErrInval)
	}
	for _, draw := range []int{least, -1, 0, 1, owner, 20, api.MaxId + 1, highest} {
		boots(t, k, api.Whence{Thread: owner, Draw: draw}, 1, one, 5000, api.ErrInval)
	}
	for _, quota := range []int{least, -1, 0, api.MaxQuota + 1, highest} {
		boots(t, k, api.Whence{Thread: owner, Draw: 500}, 1, one, quota, api.ErrInval)
	}
	boots(t, k, api.Whence{Thread: owner, Draw: 500}, 1, one, api.MaxQuota, api.ErrNoSpc) // the threads have some of it
	boots(t, k, api.Whence{Thread: owner, Draw: 500}, 1, of("{0}"), 5000, api.ErrAcces)
	boots(t, k, api.Whence{Thread: tainted, Draw: 500}, 1, of("{1 20:3}"), 5000, api.ErrAcces)
	boots(t, k, api.Whence{Thread: low, Draw: 500}, 1, of("{3}"), 5000, api.ErrAcces)
	boots(t, k, api.Whence{Thread: kept, Draw: 500}, 1, of("{1}"), 5000, api.ErrAcces)
	if k.Drawn(500) {
		t.Error("the number is drawn, and nothing was made")
	}
}

// Behind an error of the second call the container of the first one is gone.
func TestBootRefusedHalfway(t *testing.T) {
	k := populated(t)
	boots(t, k, api.Whence{Thread: owner, Draw: 500}, 1, of("{1}"), 4095, api.ErrNoSpc)
	boots(t, k, api.Whence{Thread: owner, Draw: 510}, 1, of("{1}"), 1, api.ErrNoSpc)
	boots(t, k, api.Whence{Thread: low, Draw: 520}, 1, of("{2}"), 5000, api.ErrAcces) // it doesn't see what it made
	boots(t, k, api.Whence{Thread: owner, Draw: 19}, 1, of("{1}"), 5000, api.ErrInval)
	boots(t, k, api.Whence{Thread: owner, Draw: api.MaxId}, 1, of("{1}"), 5000, api.ErrInval)
	for _, n := range []int{500, 510, 520, 19, api.MaxId} {
		if !k.Drawn(n) {
			t.Error(n, "was not drawn: the second call was not reached")
		}
	}
}

func TestOfNil(t *testing.T) {
	var f *files.Files
	for _, path := range []string{"/", "/a", "\x00", ""} {
		for _, c := range along(path) {
			for _, w := range []api.Whence{{}, {Thread: owner, Draw: 500}} {
				if a, e := c.does(f, w); e != api.ErrNone || !empty(a) {
					t.Errorf("%+v of nil: %+v, %d", c, a, e)
				}
			}
		}
	}
}

// Several files of one kernel have nothing in common but that.
func TestSeveralRoots(t *testing.T) {
	d := furnished(t)
	inner := d.stat(t, "/d").Id
	f := boots(t, d.k, d.draw(low), inner, of("{1}"), 4500, api.OK)
	errno(t, "Make", f.Make(d.draw(low), "/a", of("{1}"), 10), api.OK)
	errno(t, "Write", f.Write(by(low), "/a", 0, "other"), api.OK)
	d.reads(t, "/a", "hello")
	d.names(t, "/d", "x")
	if s, e := f.Read(by(owner), "/a", 0, 9); s != "other" || e != api.OK {
		t.Error(s, e)
	}
	d.right(t)
}
