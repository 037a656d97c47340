package fds_test

import (
	"testing"

	"gatehouse/api"
)

// In each call the first error is that the thread doesn't alter the table, whatever else is wrong.
func TestWhoMay(t *testing.T) {
	b := furnished(t)
	tables := desks(t, b)
	may := map[int][]int{0: {owner, low, second, narrow}, 1: {owner, tainted, narrow}, 2: {owner, kept, narrow}}
	for i, x := range tables {
		for _, thread := range []int{owner, low, second, tainted, kept, narrow} {
			alters := false
			for _, id := range may[i] {
				alters = alters || id == thread
			}
			for _, fd := range []int{least, -1, 0, 16} {
				for _, c := range each(fd) {
					c.n, c.path = -1, "\x00"
					switch {
					case !alters:
						b.refuses(t, x.Table, by(thread), c, api.ErrAcces)
					case c.name == "Open":
						b.refuses(t, x.Table, by(thread), c, api.ErrInval)
					case c.name == "Slots":
						b.tells(t, x.Table, by(thread), c, answer{})
					case c.name != "Drop" && c.name != "Fork" && c.name != "Pipe":
						b.refuses(t, x.Table, by(thread), c, api.ErrBadF)
					}
				}
			}
		}
		for _, thread := range []int{ended, gone, 1, 0, least, highest} {
			for _, c := range each(0) {
				b.refuses(t, x.Table, b.draw(thread), c, api.ErrDead)
			}
		}
	}
}

// A descriptor is a number from 0 to 15 whose slot isn't free.
func TestDescriptors(t *testing.T) {
	b := furnished(t)
	for range 16 {
		b.opens(t, "/a", 3)
	}
	b.tells(t, b.Table, by(low), call{name: "Slots"}, answer{List: []int{0, 1, 2, 3, 4, 5, 6, 7, 8, 9, 10, 11, 12, 13, 14, 15}})
	for _, fd := range []int{0, 3, 15} {
		b.tells(t, b.Table, by(owner), call{name: "Close", fd: fd}, answer{})
	}
	b.tells(t, b.Table, by(low), call{name: "Slots"}, answer{List: []int{1, 2, 4, 5, 6, 7, 8, 9, 10, 11, 12, 13, 14}})
	for _, fd := range []int{least, -16, -1, 0, 3, 15, 16, 17, 601, highest} {
		for _, c := range ofDescriptors(fd) {
			c.n = -1
			b.refuses(t, b.Table, by(low), c, api.ErrBadF)
		}
	}
	for _, fd := range []int{1, 14} {
		b.reads(t, b.Table, fd, 2, "he")
	}
}

// The lowest free slot is taken.
func TestFreeSlots(t *testing.T) {
	b := furnished(t)
	for fd := range 16 {
		b.tells(t, b.Table, b.draw(low), call{name: "Open", path: "/a", n: 1}, answer{N: fd})
	}
	for _, c := range []call{{name: "Open", path: "/a", n: 1}, {name: "Pipe"}, {name: "Dup", fd: 3}} {
		b.refuses(t, b.Table, b.draw(low), c, api.ErrMFile)
		b.refuses(t, b.Table, api.Whence{Thread: low, Draw: -1}, c, api.ErrMFile)
	}
	b.tells(t, b.Table, by(owner), call{name: "Close", fd: 9}, answer{})
	b.refuses(t, b.Table, b.draw(low), call{name: "Pipe"}, api.ErrMFile)
	b.tells(t, b.Table, by(low), call{name: "Dup", fd: 15}, answer{N: 9})
	for _, fd := range []int{12, 2, 7} {
		b.tells(t, b.Table, by(owner), call{name: "Close", fd: fd}, answer{})
	}
	b.tells(t, b.Table, b.draw(low), call{name: "Pipe"}, answer{N: 2, M: 7})
	b.tells(t, b.Table, b.draw(low), call{name: "Open", path: "/d/x", n: 2}, answer{N: 12})
	b.refuses(t, b.Table, b.draw(low), call{name: "Pipe"}, api.ErrMFile)
}

// Descriptors that come of one another have one place, others have their own.
func TestDup(t *testing.T) {
	b := furnished(t)
	a, c := b.opens(t, "/a", 3), b.opens(t, "/a", 1)
	id := numbers(b.k, b.Id())[a]
	b.tells(t, b.Table, by(low), call{name: "Dup", fd: a}, answer{N: 2})
	b.tells(t, b.Table, by(low), call{name: "Dup", fd: 2}, answer{N: 3})
	if s := numbers(b.k, b.Id()); s[2] != id || s[3] != id || numbers(b.k, id)[4] != 3 {
		t.Error(s, numbers(b.k, id))
	}
	b.reads(t, b.Table, a, 2, "he")
	b.reads(t, b.Table, 3, 1, "l")
	b.reads(t, b.Table, c, 2, "he")
	b.writes(t, b.Table, 2, "LO", 2)
	b.reads(t, b.Table, c, 9, "lLO")
	for i, fd := range []int{a, 3, 2} {
		b.tells(t, b.Table, by(low), call{name: "Close", fd: fd}, answer{})
		if o, there := b.k.Object(id); there != (i < 2) || there && numbers(b.k, o.Id)[4] != 2-i {
			t.Error("behind", i, "closes", there, o)
		}
	}
	b.file(t, "/a", "helLO")
}

func TestFork(t *testing.T) {
	b := furnished(t)
	a := b.opens(t, "/a", 3)
	b.tells(t, b.Table, by(low), call{name: "Dup", fd: a}, answer{N: 1})
	r, w := b.pipe(t)
	b.tells(t, b.Table, by(low), call{name: "Close", fd: 0}, answer{})
	before := numbers(b.k, b.Id())
	u, e := b.Fork(api.Whence{Thread: low, Draw: 5000})
	if e != api.OK || u.Id() != 5000 || u.Home() != 600 {
		t.Fatal(u, e)
	}
	b.right(t)
	o, _ := b.k.Object(5000)
	if o.Kind != api.Segment || o.Quota != 128 || !same(o.Label, of("{1}")) || !same(numbers(b.k, 5000), before) || !same(numbers(b.k, b.Id()), before) {
		t.Errorf("%+v", o)
	}
	for fd, n := range map[int]int{1: 2, r: 2, w: 2} {
		if x := numbers(b.k, before[fd]); x[4] != n {
			t.Error(fd, x)
		}
	}
	b.tells(t, u, by(low), call{name: "Dup", fd: 1}, answer{})
	b.reads(t, u, 0, 2, "he")
	b.reads(t, b.Table, 1, 2, "ll")
	b.tells(t, b.Table, by(low), call{name: "Slots"}, answer{List: []int{1, 2, 3}})
	v := b.forks(t, u)
	if x := numbers(b.k, before[1]); x[4] != 5 { // one, two and two slots
		t.Error(x)
	}
	b.tells(t, u, by(low), call{name: "Drop"}, answer{})
	b.tells(t, b.Table, by(low), call{name: "Drop"}, answer{})
	b.reads(t, v, 1, 2, "o")
	b.tells(t, v, by(low), call{name: "Slots"}, answer{List: []int{0, 1, 2, 3}})
	if home, _ := b.k.Object(600); len(home.List) != 5 { // a table, three opens, a pipe
		t.Error(home.List)
	}
}

func TestForkRefused(t *testing.T) {
	b := furnished(t)
	b.opens(t, "/a", 1)
	b.pipe(t)
	for _, draw := range []int{least, -1, 0, 1, 601, 20, api.MaxId + 1, highest} {
		b.refuses(t, b.Table, api.Whence{Thread: low, Draw: draw}, call{name: "Fork"}, api.ErrInval)
	}
}

func TestDrop(t *testing.T) {
	b := furnished(t)
	b.opens(t, "/a", 3)
	b.tells(t, b.Table, by(low), call{name: "Dup", fd: 0}, answer{N: 1})
	r, w := b.pipe(t)
	b.tells(t, b.Table, by(low), call{name: "Dup", fd: w}, answer{N: 4})
	u := b.forks(t, b.Table)
	b.tells(t, u, by(low), call{name: "Close", fd: r}, answer{})
	b.writes(t, u, w, "left", 4)
	b.tells(t, b.Table, by(low), call{name: "Drop"}, answer{})
	if _, there := b.k.Object(601); there {
		t.Error("the table is there")
	}
	for _, c := range each(0) {
		b.refuses(t, b.Table, b.draw(owner), c, api.ErrAcces)
		b.refuses(t, u.Of(601), b.draw(owner), c, api.ErrAcces)
	}
	b.refuses(t, u, by(low), call{name: "Write", fd: w, s: "x"}, api.ErrPipe) // the reading end was in the first table alone
	b.tells(t, u, by(low), call{name: "Slots"}, answer{List: []int{0, 1, 3, 4}})
	b.tells(t, u, by(low), call{name: "Drop"}, answer{})
	if home, _ := b.k.Object(600); len(home.List) != 0 || home.Used != 0 {
		t.Errorf("%+v", home)
	}
	b.file(t, "/a", "hello")
}

// The quota of the family is what its tables, opens and pipes take; who is refused for it finds all as it was.
func TestNoRoom(t *testing.T) {
	b := roomy(t, 128+48+96+96+128)
	b.fills(t)
	b.opens(t, "/a", 1)
	b.pipe(t)
	b.refuses(t, b.Table, b.draw(low), call{name: "Pipe"}, api.ErrNoSpc) // no room for its ends
	u := b.forks(t, b.Table)
	for _, c := range []call{{name: "Fork"}, {name: "Pipe"}, {name: "Open", path: "/a", n: 1}} {
		b.refuses(t, b.Table, b.draw(low), c, api.ErrNoSpc)
		b.refuses(t, u, b.draw(low), c, api.ErrNoSpc)
	}
	b.tells(t, b.Table, by(low), call{name: "Dup", fd: 0}, answer{N: 3})
	b.tells(t, b.Table, by(low), call{name: "Drop"}, answer{})
	b.tells(t, u, b.draw(low), call{name: "Open", path: "/a", n: 1}, answer{N: 3})
	b.tells(t, u, b.draw(low), call{name: "Open", path: "/a", n: 1}, answer{N: 4})
	b.refuses(t, u, b.draw(low), call{name: "Open", path: "/a", n: 1}, api.ErrNoSpc)
}

// Whichever of a pipe's three segments there is no room for: those made ahead of it are gone again.
func TestNoRoomForPipes(t *testing.T) {
	for left := range 193 {
		b := roomy(t, 128+left)
		if left == 192 {
			b.tells(t, b.Table, b.draw(low), call{name: "Pipe"}, answer{M: 1})
			continue
		}
		w := b.draw(low)
		b.refuses(t, b.Table, w, call{name: "Pipe"}, api.ErrNoSpc)
		for i, need := range []int{96, 144} {
			if b.k.Drawn(w.Draw+i) != (left >= need) {
				t.Error("of", left, "bytes: the number", i, "is drawn:", left < need)
			}
		}
	}
}
