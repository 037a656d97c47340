package fds_test

import (
	"slices"
	"testing"

	"gatehouse/api"
)

// The family's label is its own: whoever made it may change what was handed in.
func TestLabelHandedIn(t *testing.T) {
	b := furnished(t)
	cats := []api.Entry{{Cat: 20, Level: api.L3}, {Cat: 88, Level: 88}, {Cat: 99, Level: 99}}
	l := api.Label{Def: api.L1, Cats: cats[:1]}
	x := boots(t, b.f, b.k, b.draw(owner), 1, l, 5000, api.OK)
	u := b.forks(t, x)
	if !slices.Equal(cats, []api.Entry{{Cat: 20, Level: api.L3}, {Cat: 88, Level: 88}, {Cat: 99, Level: 99}}) {
		t.Error(cats)
	}
	cats[0] = api.Entry{Cat: 77, Level: api.L0}
	l.Def = api.L2
	for _, table := range []desk{{x, l}, {u, l}, {x.Of(u.Id()), l}} {
		w := b.draw(owner)
		if _, _, e := table.Pipe(w); e != api.OK {
			t.Error("Pipe", e)
		}
		for i := range 3 {
			if o, _ := b.k.Object(w.Draw + i); !same(o.Label, of("{1 20:3}")) {
				t.Errorf("%+v", o)
			}
		}
	}
	b.right(t)
}

// What is answered is new memory: whoever changes it changes nothing else.
func TestSlotsAreNew(t *testing.T) {
	b := furnished(t)
	b.opens(t, "/a", 1)
	b.pipe(t)
	unchanged(t, b.k, func() {
		list, e := b.Slots(by(low))
		errno(t, "Slots", e, api.OK)
		other, _ := b.Slots(by(low))
		for i := range list {
			list[i] = 9
		}
		_ = append(list, list...)
		for _, l := range [][]int{other, must(b.Slots(by(low)))} {
			if !slices.Equal(l, []int{0, 1, 2}) {
				t.Error(l)
			}
		}
	})
}

func must(l []int, _ api.Errno) []int { return l }

// Nothing is kept but where things are: another table of the same numbers tells the same, also behind what was done by the first.
func TestNothingIsKept(t *testing.T) {
	b := furnished(t)
	x := b.Of(b.Id())
	fd := b.opens(t, "/a", 3)
	r, w := b.pipe(t)
	b.writes(t, x, w, "abc", 3)
	b.reads(t, b.Table, r, 2, "ab")
	b.reads(t, x, r, 2, "c")
	b.reads(t, x, fd, 2, "he")
	b.reads(t, b.Table, fd, 2, "ll")
	b.tells(t, x, by(low), call{name: "Close", fd: fd}, answer{})
	b.refuses(t, b.Table, by(low), call{name: "Read", fd: fd, n: 1}, api.ErrBadF)
	b.tells(t, x, by(low), call{name: "Drop"}, answer{})
	b.refuses(t, b.Table, by(low), call{name: "Slots"}, api.ErrAcces)
}
