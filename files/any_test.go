package files_test

import (
	"fmt"
	"slices"
	"strings"
	"testing"

	"gatehouse/api"
	"gatehouse/dir"
	"gatehouse/files"
	"gatehouse/label"
	"gatehouse/view"
)

// labels are those that calls hand in, the more usual ones more than once.
func labels() []api.Label {
	return []api.Label{of("{1}"), of("{1}"), of("{1}"), of("{1 20:3}"), of("{1 20:3}"), of("{1 20:0}"), of("{1 20:0}"), of("{2}"), of("{1 20:*}"), {Def: 7}}
}

// path answers a path of few names, mostly of what is there; so many of ten times the last name is a new one.
func (d *dice) path(on *disk, fresh int) string {
	switch d.roll(30) {
	case 0:
		return pick(d, "/", "", "/..", "/\x00", "/"+strings.Repeat("n", 33), "/a/x/..")
	case 1:
		return "/" + strings.Repeat("z", 32)
	case 2:
		return d.path(on, 0) + "/x"
	case 3:
		return d.path(on, 10) + "/x"
	}
	path := "/"
	for range 3 {
		list, e := on.List(by(owner), path)
		if e != api.OK {
			break
		}
		if len(list) == 0 || d.roll(10) < fresh {
			return path + "/" + pick(d, "a", "b", "c", "f", "g", "long-name", strings.Repeat("w", 32))
		}
		n := pick(d, list...)
		path += "/" + n.Name
		if n.Kind == api.AFile || d.roll(3) == 0 {
			break
		}
	}
	return path
}

// call answers any call.
func (d *dice) call(on *disk) call {
	c := call{name: pick(d, append(all(), "Make", "Mkdir", "Link", "Rename", "Rename", "Remove", "Remove")...), path: d.path(on, 1), to: d.path(on, 5), l: pick(d, labels()...)}
	if strings.HasPrefix(c.name, "M") {
		c.path = c.to
	}
	c.at = pick(d, 0, 0, 1, 5, 20, 99, 100, 4095, 4096, -1, highest)
	c.n = pick(d, 0, 1, 5, 100, 101, 4096, 4097, -1, highest)
	c.s = pick(d, "", "x", "some text", strings.Repeat("z", 100), strings.Repeat("y", 4096), strings.Repeat("y", 4097))
	c.quota = pick(d, 1, 10, 100, 100, 5000, 10000)
	if c.name == "Mkdir" {
		c.quota = pick(d, 4095, 4096, 4300, 9000, 20000, 50000)
	}
	return c
}

// whence answers a thread with numbers that mostly nobody had.
func (d *dice) whence(on *disk) api.Whence {
	w := on.draw(pick(d, owner, owner, owner, low, low, low, tainted, tainted, kept, ended))
	switch d.roll(60) {
	case 0:
		w.Draw = pick(d, -1, 0, 1, 10, api.MaxId, api.MaxId+1, highest)
	case 1:
		w.Draw -= 11 // the second number was drawn, if anything was
	}
	return w
}

// spoil changes something by other means than files: entries of containers, or bytes of segments.
func (d *dice) spoil(on *disk) {
	var boxes, segments []api.Object
	for _, id := range on.k.Ids() {
		switch o, _ := on.k.Object(id); {
		case o.Kind == api.Container && id != 1:
			boxes = append(boxes, o)
		case o.Kind == api.Segment:
			segments = append(segments, o)
		}
	}
	if len(boxes) == 0 || len(segments) == 0 {
		return
	}
	box, other := pick(d, boxes...), pick(d, boxes...)
	w := on.draw(owner)
	switch d.roll(8) {
	case 0:
		if len(box.List) > 0 {
			on.k.Do(owner, api.Call{Op: api.CallDrop, P: at(box.Id, pick(d, box.List...))}, 0)
		}
	case 1:
		if len(box.List) > 0 { // two containers may have one segment, even as their bytes
			on.k.Do(owner, api.Call{Op: api.CallLink, P: at(box.Id, pick(d, box.List[0], pick(d, box.List...))), Q: at(other.Id, 0)}, 0)
		}
	case 2:
		if len(box.List) > 1 { // another one comes first
			on.k.Do(owner, api.Call{Op: api.CallDrop, P: at(box.Id, box.List[0])}, 0)
		}
	case 3:
		on.k.Do(owner, api.Call{Op: api.CallCell, P: at(box.Id, 0), L: pick(d, labels()...), A: pick(d, 10, 30, 4096)}, w.Draw)
	case 4:
		on.k.Fill(pick(d, segments...).Id, pick(d, "", "garbage", strings.Repeat("\x00", 5)))
	default:
		on.k.Fill(pick(d, segments...).Id, d.entries(on, box))
	}
}

// entries answers the bytes of a directory, of which few numbers are those of others.
func (d *dice) entries(on *disk, box api.Object) string {
	var l []api.Name
	for _, name := range []string{"a", "b", "c", "d", "e"} {
		if d.roll(2) == 0 {
			id := pick(d, append(on.k.Ids(), 5, 777, on.next+10)...)
			if len(box.List) > 0 && d.roll(3) > 0 {
				id = pick(d, box.List...)
			}
			l = append(l, api.Name{Name: name, Kind: pick(d, api.AFile, api.AFile, api.ADir), Id: id})
		}
	}
	s, _ := dir.Encode(l)
	return s
}

// does does a call, and holds what it answers and what is there behind it against the model.
func (on *disk) does(t *testing.T, what string, w api.Whence, c call) api.Errno {
	t.Helper()
	want, f, after := wants(on.k, 10, w, c)
	before := view.Dump(on.k)
	a, e := c.does(on.Files, w)
	if e != f || !same(a, want) {
		t.Fatalf("%s: %+v of %+v: %+v, error %d, not %+v, %d", what, c, w, a, e, want, f)
	}
	got := view.Dump(on.k)
	if !view.Same(got, view.Dump(after)) {
		t.Fatalf("%s: %+v of %+v: error %d, not as it must be:%s", what, c, w, e, unlike(state(after), state(on.k)))
	}
	if wrong := trespass(w.Thread, before, got); wrong != "" {
		t.Fatalf("%s: %+v of %+v: %s", what, c, w, wrong)
	}
	return e
}

// trespass tells what a call has changed that its thread doesn't alter, unless it lay in what was dropped.
func trespass(by int, before, after []api.Object) string {
	var self api.Object
	now := map[int]api.Object{}
	for _, o := range after {
		now[o.Id] = o
	}
	for _, o := range before {
		if o.Id == by {
			self = o
		}
	}
	for _, o := range before {
		other, there := now[o.Id]
		if !there || self.Kind == api.Thread && label.Alters(self.Label, o.Label) {
			continue // what is gone is gone with an entry of a container: that one is asked
		}
		o.Links = min(o.Links, other.Links)
		if !view.Same([]api.Object{o}, []api.Object{other}) {
			return fmt.Sprintf("%+v became %+v", o, other)
		}
	}
	return ""
}

// rows does rows of calls, each on a disk of its own, and tells how often each error came of each call.
func rows(t *testing.T, d dice, many int, spoils bool) map[string]map[api.Errno]int {
	t.Helper()
	count := map[string]map[api.Errno]int{}
	for _, name := range all() {
		count[name] = map[api.Errno]int{}
	}
	for row := range many {
		on := furnished(t)
		if row%3 == 0 {
			on = cramped(t)
		}
		for step := range 100 {
			if spoils && d.roll(6) == 0 {
				d.spoil(on)
			}
			c := d.call(on)
			e := on.does(t, fmt.Sprintf("row %d, step %d", row, step), d.whence(on), c)
			count[c.name][e]++
		}
		on.right(t)
	}
	return count
}

// cramped answers a disk without much room: neither in the bytes of /d nor in the quotas.
func cramped(t *testing.T) *disk {
	t.Helper()
	d := &disk{k: populated(t), next: 1000}
	var e api.Errno
	if d.Files, e = files.Boot(d.k, api.Whence{Thread: owner, Draw: 10}, 1, of("{1}"), 30000); e != api.OK {
		t.Fatal(e)
	}
	d.makes(t, "/a", "{1}", 100, "hello")
	d.makesDir(t, "/d", "{1}", 9000)
	d.makesDir(t, "/e", "{1}", 4150)
	for i := range 96 {
		errno(t, "Link", d.Link(by(owner), "/a", fmt.Sprintf("/d/%032d", i)), api.OK)
	}
	return d
}

// usual are the errors that a row of calls must have met, of each call.
func usual(name string) []api.Errno {
	list := []api.Errno{api.OK, api.ErrNoEnt, api.ErrAcces, api.ErrDead}
	switch name {
	case "Make", "Mkdir":
		list = append(list, api.ErrExist, api.ErrNoSpc, api.ErrInval, api.ErrNotDir)
	case "Link":
		list = append(list, api.ErrIsDir, api.ErrExist, api.ErrNoSpc)
	case "Rename":
		list = append(list, api.ErrExist, api.ErrInval, api.ErrNoSpc)
	case "Remove":
		list = append(list, api.ErrBusy)
	case "Read", "Write", "Cut":
		list = append(list, api.ErrIsDir, api.ErrInval)
	case "List":
		list = append(list, api.ErrNotDir)
	}
	return list
}

func enough(t *testing.T, count map[string]map[api.Errno]int, more ...api.Errno) {
	t.Helper()
	for _, name := range all() {
		for _, e := range slices.Concat(usual(name), more) {
			if count[name][e] < 3 {
				t.Errorf("%s: error %d came %d times", name, e, count[name][e])
			}
		}
	}
}

// TestAnyCalls: whatever row of calls, of threads of several labels.
func TestAnyCalls(t *testing.T) {
	enough(t, rows(t, 14, 240, false))
}

// TestAnyCallsOnSpoiltDisks: the same, while somebody else changes directories by the kernel's calls and from outside.
func TestAnyCallsOnSpoiltDisks(t *testing.T) {
	enough(t, rows(t, 141, 360, true), api.ErrForm)
}
