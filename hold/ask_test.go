package hold_test

import (
	"slices"
	"testing"

	"gatehouse/api"
	"gatehouse/hold"
)

func TestInfo(t *testing.T) {
	x := boxed(t)
	for id, kind := range map[int]int{1: api.Container, 5: api.Container, 7: api.Segment, 8: api.Thread, 9: api.Segment, 10: api.Gate} {
		if i, ok := x.Info(id); !ok || i.Id != id || i.Kind != kind || !same(i.Label, one) {
			t.Errorf("Info(%d) = %+v, %t", id, i, ok)
		}
	}
	told(t, x, 1, most, 150, 1)
	told(t, x, 5, 100, 70, 1)
	told(t, x, 8, 10, 0, 1)
	for _, id := range []int{0, 2, -1, least, highest, api.MaxId} {
		if i, ok := x.Info(id); ok || i.Id != 0 || i.Kind != 0 || i.Quota != 0 || i.Used != 0 || i.Links != 0 || !same(i.Label, api.Label{}) {
			t.Errorf("Info(%d) = %+v, %t", id, i, ok)
		}
	}
}

func TestList(t *testing.T) {
	x := boxed(t)
	listed(t, x, 1, 5, 9, 10)
	listed(t, x, 5, 7, 8)
	for id, want := range map[int]api.Errno{0: api.ErrNone, 2: api.ErrNone, least: api.ErrNone, highest: api.ErrNone, 7: api.ErrKind, 8: api.ErrKind, 10: api.ErrKind} {
		if list, e := x.List(id); len(list) > 0 || e != want {
			t.Errorf("List(%d) = %v, %d, not %d", id, list, e, want)
		}
	}
}

func TestHas(t *testing.T) {
	x := boxed(t)
	some := []int{least, -1, 0, 1, 2, 5, 7, 8, 9, 10, highest}
	yes := [][2]int{{1, 5}, {1, 9}, {1, 10}, {5, 7}, {5, 8}}
	for _, in := range some {
		for _, id := range some {
			if x.Has(in, id) != slices.Contains(yes, [2]int{in, id}) {
				t.Errorf("Has(%d, %d)", in, id)
			}
		}
	}
	x.Drop(1, 5)
	if x.Has(1, 5) || x.Has(5, 7) || !x.Has(1, 9) {
		t.Error("what is gone is no entry, and has none")
	}
}

func TestIds(t *testing.T) {
	x := begun(t)
	for _, id := range []int{77, 3, api.MaxId, 2, 1 << 40, 50, 12} {
		put(t, x, 1, id, api.Segment, 1)
	}
	if got := x.Ids(); !slices.Equal(got, []int{1, 2, 3, 12, 50, 77, 1 << 40, api.MaxId}) || x.Len() != 8 {
		t.Error(got, x.Len())
	}
}

func TestNil(t *testing.T) {
	var x *hold.Table
	for _, in := range []int{0, 1, least, highest} {
		errno(t, "Make", x.Make(in, 5, api.Segment, 1, one), api.ErrNone)
		errno(t, "Link", x.Link(in, in), api.ErrNone)
		errno(t, "Shift", x.Shift(in, in, in), api.ErrNone)
		errno(t, "Relabel", x.Relabel(in, one), api.ErrNone)
		if gone, e := x.Drop(in, in); len(gone) > 0 || e != api.ErrNone {
			t.Error("Drop", gone, e)
		}
		if list, e := x.List(in); len(list) > 0 || e != api.ErrNone {
			t.Error("List", list, e)
		}
		if i, ok := x.Info(in); ok || i.Id != 0 || i.Links != 0 || x.Has(in, in) {
			t.Error("Info, Has", i, ok)
		}
	}
	if x.Len() != 0 || len(x.Ids()) != 0 || x.Copy() != nil {
		t.Error("Len, Ids, Copy")
	}
}

// TestCopy: whichever of the two changes, the other one stays.
func TestCopy(t *testing.T) {
	changes := []func(x *hold.Table){
		func(x *hold.Table) { x.Make(5, 20, api.Segment, 1, one) },
		func(x *hold.Table) { x.Link(1, 7) },
		func(x *hold.Table) { x.Drop(1, 9) },
		func(x *hold.Table) { x.Drop(1, 5) },
		func(x *hold.Table) { x.Shift(1, 5, 7) },
		func(x *hold.Table) { x.Relabel(8, of(api.L2, 3, api.Star)) },
	}
	for i, change := range changes {
		x := boxed(t)
		y := x.Copy()
		if state(x) != state(y) {
			t.Errorf("%d: no copy", i)
		}
		unchanged(t, x, func() { change(y) })
		after := state(y)
		if after == state(x) {
			t.Errorf("%d: the copy didn't change", i)
		}
		unchanged(t, y, func() { change(x) })
		if state(x) != after {
			t.Errorf("%d: the two went unlike ways", i)
		}
		right(t, x, 1)
		right(t, y, 1)
	}
}

// TestCopyRows: entries that both link anew don't run over each other.
func TestCopyRows(t *testing.T) {
	for n := range 20 {
		x := begun(t)
		for id := range n {
			put(t, x, 1, 100+id, api.Segment, 1)
		}
		y := x.Copy()
		put(t, x, 1, 10, api.Segment, 1)
		put(t, y, 1, 20, api.Segment, 1)
		if !x.Has(1, 10) || x.Has(1, 20) || !y.Has(1, 20) || y.Has(1, 10) {
			t.Error(n, state(x), state(y))
		}
	}
}

// TestMemory: what is handed in and what is answered may be changed by whoever has it, without anything happening to the table.
func TestMemory(t *testing.T) {
	room := [4]api.Entry{{Cat: 2, Level: api.L3}, {Cat: 9, Level: api.L3}, {Cat: 1, Level: 1}, {Cat: 1, Level: 1}}
	l := api.Label{Def: api.L1, Cats: room[:2]}
	x := hold.New(1, l)
	errno(t, "Make", x.Make(1, 5, api.Segment, 10, l), api.OK)
	errno(t, "Make", x.Make(1, 6, api.Thread, 10, one), api.OK)
	errno(t, "Relabel", x.Relabel(6, l), api.OK)
	y := x.Copy()
	if room != [4]api.Entry{{Cat: 2, Level: api.L3}, {Cat: 9, Level: api.L3}, {Cat: 1, Level: 1}, {Cat: 1, Level: 1}} {
		t.Error("what was handed in has changed")
	}
	spoil := func(x *hold.Table) {
		for _, id := range x.Ids() {
			i, _ := x.Info(id)
			for c := range i.Label.Cats[:cap(i.Label.Cats)] {
				i.Label.Cats[:cap(i.Label.Cats)][c] = api.Entry{Cat: 77, Level: 77}
			}
			list, _ := x.List(id)
			for c := range list[:cap(list)] {
				list[:cap(list)][c] = 77
			}
		}
		ids := x.Ids()
		clear(ids[:cap(ids)])
	}
	before := state(x)
	clear(room[:])
	spoil(x)
	if state(x) != before || state(y) != before {
		t.Error("changed from outside")
	}
	spoil(y)
	put(t, x, 1, 7, api.Segment, 1)
	dropped(t, x, 1, 7, 7)
	if state(x) != before || state(y) != before {
		t.Error("changed from outside, through the copy")
	}
}
