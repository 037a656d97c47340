package files_test

import (
	"strings"
	"testing"

	"gatehouse/api"
	"gatehouse/view"
)

// secrets lets a disk differ from others in what is hidden from {1} alone.
func (d *disk) secrets(t *testing.T) {
	t.Helper()
	errno(t, "Write", d.Write(by(owner), "/s", 0, "something else, and more of it"), api.OK)
	errno(t, "Make", d.Make(api.Whence{Thread: owner, Draw: 900}, "/h/more", of("{1 20:3}"), 50), api.OK)
	errno(t, "Remove", d.Remove(by(owner), "/h/x"), api.OK)
	errno(t, "Mkdir", d.Mkdir(api.Whence{Thread: owner, Draw: 910}, "/h/in", of("{1 20:3}"), 4200), api.OK)
}

// TestNothingComesOut: what threads are answered that don't see hidden things, and what an observer sees, doesn't hang on these, nor on what is done by those that do.
func TestNothingComesOut(t *testing.T) {
	d, eye := dice(6), of("{1}")
	did, knew := 0, 0
	for row := range 40 {
		plain, with := furnished(t), furnished(t)
		with.secrets(t)
		for step := range 80 {
			c := d.call(plain)
			if d.roll(3) == 0 {
				c.path = strings.Replace(c.path, "/d", "/h", 1)
			}
			if d.roll(3) == 0 {
				before := view.See(view.Dump(with.k), 1, eye)
				_, e := c.does(with.Files, api.Whence{Thread: tainted, Draw: 100000 + 10*step})
				if e == api.OK {
					knew++
				}
				if !view.Same(before, view.See(view.Dump(with.k), 1, eye)) {
					t.Fatalf("row %d, step %d: %+v can be seen", row, step, c)
				}
				continue
			}
			w := api.Whence{Thread: pick(&d, low, low, low, kept), Draw: 200000 + 10*step}
			a, e := c.does(plain.Files, w)
			b, f := c.does(with.Files, w)
			if e != f || !same(a, b) {
				t.Fatalf("row %d, step %d: %+v of %+v: %+v, %d without, %+v, %d with secrets", row, step, c, w, a, e, b, f)
			}
			if e == api.OK {
				did++
			}
			if !view.Same(view.See(view.Dump(plain.k), 1, eye), view.See(view.Dump(with.k), 1, eye)) {
				t.Fatalf("row %d, step %d: %+v of %+v: unlike things are seen", row, step, c, w)
			}
		}
	}
	if did < 300 || knew < 50 {
		t.Error("it says little: ", did, knew)
	}
}

// TestNobodyWhoStopped: who doesn't run can do nothing, whatever the files are.
func TestNobodyWhoStopped(t *testing.T) {
	d, on := dice(7), furnished(t)
	for range 400 {
		c := d.call(on)
		for _, thread := range []int{ended, gone, 10, 0, -1} {
			unchanged(t, on.k, func() {
				if a, e := c.does(on.Files, on.draw(thread)); e == api.OK || !empty(a) {
					t.Fatalf("%+v of %d: %+v, %d", c, thread, a, e)
				}
			})
		}
	}
}
