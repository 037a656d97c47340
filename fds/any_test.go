package fds_test

import (
	"fmt"
	"slices"
	"strings"
	"testing"

	"gatehouse/api"
	"gatehouse/fds"
	"gatehouse/label"
	"gatehouse/view"
)

// desk is one of the tables of a row of calls: also such as were dropped, or never there.
type desk struct {
	*fds.Table
	l api.Label
}

// desks are those of a furnished bench: of three families, of unlike labels.
func desks(t *testing.T, b *bench) []desk {
	t.Helper()
	return []desk{
		{b.Table, of("{1}")},
		{b.family(t, 610, "{1 20:3}", 3000), of("{1 20:3}")},
		{b.family(t, 620, "{1 20:0}", 1500), of("{1 20:0}")},
		{b.Of(777), of("{1}")},
	}
}

// call answers any call, mostly of a descriptor that the table has.
func (d *dice) call(x *fds.Table) call {
	c := call{name: pick(d, append(all(), "Open", "Pipe", "Pipe", "Read", "Read", "Write", "Write", "Write", "Close", "Close", "Dup")...)}
	c.path = pick(d, "/a", "/a", "/e", "/e", "/s", "/k", "/d/x", "/d", "/none", "/a/x", "\x00")
	c.fd = pick(d, -1, 0, 1, 2, 3, 4, d.roll(16), 16)
	if list, e := x.Slots(by(owner)); e == api.OK && len(list) > 0 && d.roll(8) > 0 {
		c.fd = pick(d, list...)
	}
	c.n = pick(d, 0, 1, 2, 5, 70, 200, 4095, -1, highest)
	c.s = pick(d, "", "x", "text", strings.Repeat("abcdefg", 5), strings.Repeat("z", 101), strings.Repeat("y", 4097))
	switch c.name {
	case "Open":
		c.n = pick(d, 1, 2, 3, 3, 6, 7, d.roll(10)-1)
	case "Seek":
		c.n = pick(d, 0, 0, 3, 90, 99, 4095, 4096, 1<<40, 1<<40+1, -1, least)
	}
	return c
}

// whence answers a thread, mostly one that alters what has the label, with numbers that mostly nobody had.
func (d *dice) whence(b *bench, l api.Label) api.Whence {
	w := b.draw(pick(d, owner, owner, owner, low, low, second, second, tainted, tainted, narrow, kept, ended))
	if o, _ := b.k.Object(w.Thread); !label.Alters(o.Label, l) && d.roll(4) > 0 {
		w.Thread = owner
	}
	switch d.roll(40) {
	case 0:
		w.Draw = pick(d, -1, 0, 1, 10, api.MaxId-1, api.MaxId, api.MaxId+1, highest)
	case 1:
		w.Draw -= 11 // the second, or the third, was drawn, if anything was
	case 2:
		w.Draw -= 12
	}
	return w
}

// stir changes files and their names by other means than tables.
func (d *dice) stir(b *bench) {
	w := b.draw(owner)
	switch d.roll(9) {
	case 0:
		b.f.Rename(w, "/a", "/d/a")
	case 1:
		b.f.Rename(w, "/d/a", "/a")
	case 2:
		b.f.Remove(w, pick(d, "/a", "/k", "/s", "/d/x", "/e"))
	case 3:
		b.f.Make(w, pick(d, "/a", "/k", "/d/x", "/s"), pick(d, of("{1}"), of("{1 20:3}"), of("{1 20:0}")), 100)
	case 4:
		b.f.Cut(w, pick(d, "/a", "/e", "/k"), pick(d, 0, 3, 100))
	default:
		b.f.Write(w, pick(d, "/a", "/e", "/s"), d.roll(50), pick(d, "", "other", "things"))
	}
}

// does does a call, and holds what it answers and what is there behind it against the model.
func (b *bench) holds(t *testing.T, what string, x desk, w api.Whence, c call) (answer, api.Errno) {
	t.Helper()
	want, f, after := wants(model{k: b.k, f: b.f, w: w, home: x.Home(), l: x.l, id: x.Id()}, c)
	before := view.Dump(b.k)
	a, e := c.does(x.Table, w)
	if e != f || !same(a, want) {
		t.Fatalf("%s: %+v of %+v: %+v, error %d, not %+v, %d", what, c, w, a, e, want, f)
	}
	got := view.Dump(b.k)
	if !view.Same(got, view.Dump(after)) {
		t.Fatalf("%s: %+v of %+v: error %d, not as it must be:%s", what, c, w, e, unlike(state(after), state(b.k)))
	}
	if wrong := trespass(w.Thread, before, got); wrong != "" {
		t.Fatalf("%s: %+v of %+v: %s", what, c, w, wrong)
	}
	return a, e
}

// trespass tells what a call has changed that its thread doesn't alter: but for threads that run again, and what lay in what was dropped.
func trespass(by int, before, after []api.Object) string {
	now, was := map[int]api.Object{}, map[int]api.Object{}
	for _, o := range after {
		now[o.Id] = o
	}
	for _, o := range before {
		was[o.Id] = o
	}
	self := was[by]
	alters := func(l api.Label) bool { return self.Kind == api.Thread && label.Alters(self.Label, l) }
	for _, o := range before {
		other, there := now[o.Id]
		if !there || alters(o.Label) {
			continue // what is gone is gone with an entry of a container: that one is asked
		}
		if o.Does == api.Waits && other.Does == api.Runs && alters(was[o.Seg].Label) {
			o.Does, o.Seg, o.Off = api.Runs, 0, 0
		}
		if !view.Same([]api.Object{o}, []api.Object{other}) {
			return fmt.Sprintf("%+v became %+v", o, other)
		}
	}
	return ""
}

// waiting tells whether whoever waits would be held still: at a pipe without bytes, that somebody may write, or at a full one, that somebody may read.
func (b *bench) waiting(t *testing.T, what string) {
	t.Helper()
	for _, id := range b.k.Ids() {
		o, _ := b.k.Object(id)
		if o.Does != api.Waits {
			continue
		}
		p := numbers(b.k, o.Seg)
		if o.Off == 8 && (p[0] != p[1] || p[3] == 0) || o.Off == 0 && (p[1]-p[0] != 64 || p[2] == 0) {
			t.Fatalf("%s: %d waits at %d, and needn't: %v", what, id, o.Off, p)
		}
	}
}

// settles lets a thread wait that was held, now and then, but not the owner.
func (d *dice) settles(t *testing.T, b *bench, x desk, thread, fd int) bool {
	t.Helper()
	if thread == owner || d.roll(3) > 0 {
		return false
	}
	b.waits(t, thread, x.Table, fd)
	return true
}

// rows does rows of calls, each on a bench of its own, and tells how often each error came of each call, and how many waited.
func rows(t *testing.T, d dice, many, quota int) (count map[string]map[api.Errno]int, waited int) {
	t.Helper()
	count = map[string]map[api.Errno]int{}
	for _, name := range all() {
		count[name] = map[api.Errno]int{}
	}
	for row := range many {
		b := roomy(t, quota)
		b.fills(t)
		some := desks(t, b)
		for step := range 150 {
			if d.roll(12) == 0 {
				d.stir(b)
			}
			what := fmt.Sprintf("row %d, step %d", row, step)
			i := pick(&d, d.roll(len(some)), d.roll(len(some)), 0, len(some)-1)
			c, w := d.call(some[i].Table), d.whence(b, some[i].l)
			if c.name == "Drop" && d.roll(3) > 0 || c.name == "Close" && row%4 == 0 && d.roll(8) > 0 {
				continue // so that tables are full now and then
			}
			a, e := b.holds(t, what, some[i], w, c)
			count[c.name][e]++
			if c.name == "Fork" && e == api.OK {
				some = append(some, desk{some[i].Of(a.Table), some[i].l})
			}
			if e == api.ErrAgain && d.settles(t, b, some[i], w.Thread, c.fd) {
				waited++
			}
			b.waiting(t, what)
		}
		b.right(t)
	}
	return count, waited
}

// usual are the errors that a row of calls must have met, of each call.
func usual(name string) []api.Errno {
	list := []api.Errno{api.OK, api.ErrAcces, api.ErrDead}
	switch name {
	case "Open":
		list = append(list, api.ErrInval, api.ErrNoEnt, api.ErrIsDir, api.ErrNotDir, api.ErrMFile)
	case "Pipe":
		list = append(list, api.ErrMFile, api.ErrInval)
	case "Fork":
		list = append(list, api.ErrInval)
	case "Dup":
		list = append(list, api.ErrMFile)
	case "Read":
		list = append(list, api.ErrInval, api.ErrAgain, api.ErrNoEnt)
	case "Write":
		list = append(list, api.ErrPipe, api.ErrAgain, api.ErrNoEnt, api.ErrNoSpc)
	case "Seek":
		list = append(list, api.ErrSPipe, api.ErrInval)
	case "Held":
		list = append(list, api.ErrInval)
	}
	if !slices.Contains([]string{"Open", "Pipe", "Fork", "Drop", "Slots"}, name) {
		list = append(list, api.ErrBadF)
	}
	return list
}

func enough(t *testing.T, count map[string]map[api.Errno]int, more func(string) []api.Errno) {
	t.Helper()
	for _, name := range all() {
		for _, e := range more(name) {
			if count[name][e] < 3 {
				t.Errorf("%s: error %d came %d times", name, e, count[name][e])
			}
		}
	}
}

// TestAnyCalls: whatever row of calls, of threads of several labels, on tables of several families.
func TestAnyCalls(t *testing.T) {
	count, waited := rows(t, 16, 250, 1<<16)
	enough(t, count, usual)
	if waited < 30 {
		t.Error(waited, "waited")
	}
}

// TestAnyCallsWithoutRoom: the same, where the family has little room.
func TestAnyCallsWithoutRoom(t *testing.T) {
	count, _ := rows(t, 161, 120, 700)
	enough(t, count, func(name string) []api.Errno {
		if slices.Contains([]string{"Open", "Pipe", "Fork"}, name) {
			return []api.Errno{api.OK, api.ErrNoSpc}
		}
		return []api.Errno{api.OK}
	})
}
