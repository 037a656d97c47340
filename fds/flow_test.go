package fds_test

import (
	"fmt"
	"strings"
	"testing"

	"gatehouse/api"
	"gatehouse/fds"
	"gatehouse/view"
)

// secrets lets a bench differ from others in what is hidden from {1} alone.
func (b *bench) secrets(t *testing.T, hidden *fds.Table) {
	t.Helper()
	errno(t, "Write", b.f.Write(by(owner), "/s", 0, "something else, and more of it"), api.OK)
	for i := range 2 {
		_, w, e := hidden.Pipe(api.Whence{Thread: owner, Draw: 900 + 10*i})
		errno(t, "Pipe", e, api.OK)
		hidden.Write(by(owner), w, "hidden")
	}
	hidden.Open(api.Whence{Thread: owner, Draw: 950}, "/s", 3)
}

// TestNothingComesOut: what threads are answered that don't see hidden things, and what an observer sees, doesn't hang on these, nor on what is done by those that do.
func TestNothingComesOut(t *testing.T) {
	d, eye := dice(6), of("{1}")
	did, knew := 0, 0
	for row := range 40 {
		plain, with := furnished(t), furnished(t)
		one, other := plain.family(t, 610, "{1 20:3}", 5000), with.family(t, 610, "{1 20:3}", 5000)
		with.secrets(t, other)
		plain.opens(t, "/s", 3)
		with.opens(t, "/s", 3)
		for step := range 80 {
			c := d.call(plain.Table)
			if d.roll(3) == 0 {
				before := view.See(view.Dump(with.k), 1, eye)
				c.fd = d.roll(5)
				_, e := c.does(other, api.Whence{Thread: tainted, Draw: 100000 + 10*step})
				if e == api.OK {
					knew++
				}
				if !view.Same(before, view.See(view.Dump(with.k), 1, eye)) {
					t.Fatalf("row %d, step %d: %+v can be seen", row, step, c)
				}
				continue
			}
			w := api.Whence{Thread: pick(&d, low, low, second, kept), Draw: 200000 + 10*step}
			x, y := plain.Table, with.Table
			switch {
			case d.roll(6) == 0:
				x, y = one, other // which they may not touch
			case c.name == "Drop":
				continue
			}
			a, e := c.does(x, w)
			f, g := c.does(y, w)
			if e != g || !same(a, f) {
				t.Fatalf("row %d, step %d: %+v of %+v: %+v, %d without, %+v, %d with secrets", row, step, c, w, a, e, f, g)
			}
			if e == api.OK {
				did++
			}
			if !view.Same(view.See(view.Dump(plain.k), 1, eye), view.See(view.Dump(with.k), 1, eye)) {
				t.Fatalf("row %d, step %d: %+v of %+v: unlike things are seen", row, step, c, w)
			}
		}
	}
	if did < 300 || knew < 50 {
		t.Error("it says little: ", did, knew)
	}
}

// garbage answers numbers of whatever kind, and such as could be.
func (d *dice) garbage(b *bench, n int) string {
	var list []int
	for range n {
		list = append(list, pick(d, 0, 0, 1, 2, 3, -1, 64, 4096, 4097, least, highest, 600, 601, 10, owner, b.next+1, pick(d, b.k.Ids()...), pick(d, b.k.Ids()...)))
	}
	return bytesOf(list...)
}

// TestSpoiltFamilies: whatever others have written into its segments, calls end, change nothing that their thread doesn't alter, and leave the kernel right.
func TestSpoiltFamilies(t *testing.T) {
	d := dice(166)
	ok := 0
	for row := range 80 {
		b := furnished(t)
		some := desks(t, b)[:3]
		for step := range 100 {
			x := some[min(d.roll(3), d.roll(3))]
			if d.roll(4) == 0 {
				home, _ := b.k.Object(x.Home())
				if len(home.List) == 0 {
					break
				}
				o, _ := b.k.Object(pick(&d, home.List...))
				s := d.garbage(b, o.Quota/8)
				switch d.roll(6) {
				case 0:
					s = s[:d.roll(len(s)+1)] // shorter than any of them
				case 1:
					s = strings.Repeat("\xff", o.Quota)
				case 2, 3:
					if at := 8 * d.roll(len(o.Bytes)/8+1); at+8 <= len(o.Bytes) {
						s = o.Bytes[:at] + s[:8] + o.Bytes[at+8:]
					}
				}
				errno(t, "Fill", b.k.Fill(o.Id, s), api.OK)
			}
			c, w := d.call(x.Table), d.whence(b, x.l)
			if c.name == "Drop" && d.roll(4) > 0 {
				continue
			}
			before := view.Dump(b.k)
			a, e := c.does(x.Table, w)
			what := fmt.Sprintf("row %d, step %d: %+v of %+v: %+v, %d", row, step, c, w, a, e)
			if e == api.OK {
				ok++
			} else if !same(a, answer{}) {
				t.Fatal(what)
			}
			if wrong := trespass(w.Thread, before, view.Dump(b.k)); wrong != "" {
				t.Fatal(what, wrong)
			}
		}
		b.right(t)
	}
	if ok < 1000 {
		t.Error("it says little: ", ok)
	}
}

// What isn't there any more in a spoilt family can be closed all the same by dropping the table.
func TestDropOfSpoilt(t *testing.T) {
	b := furnished(t)
	b.opens(t, "/a", 1)
	r, w := b.pipe(t)
	u := b.forks(t, b.Table)
	b.ask(t, owner, api.Call{Op: api.CallDrop, P: at(600, numbers(b.k, 601)[0])})
	b.ask(t, owner, api.Call{Op: api.CallDrop, P: at(600, numbers(b.k, numbers(b.k, 601)[r])[2])})
	for _, x := range []*fds.Table{b.Table, u} {
		for _, fd := range []int{0, r, w} {
			for _, c := range ofDescriptors(fd) {
				c.does(x, by(low))
			}
		}
		b.tells(t, x, by(low), call{name: "Drop"}, answer{})
	}
}
