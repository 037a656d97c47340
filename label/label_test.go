package label_test

import (
	"slices"
	"testing"

	"gatehouse/api"
	"gatehouse/label"
)

func TestRightPlainFree(t *testing.T) {
	for _, x := range []struct {
		l                  api.Label
		right, plain, free bool
	}{
		{of(0), true, true, false},
		{of(1), true, true, true},
		{of(2), true, true, true},
		{of(4), true, true, true},
		{of(5), true, false, false},
		{of(2, 1, 4, api.MaxId, 1), true, true, true},
		{of(2, 5, 0), true, true, false},
		{of(2, 5, 5), true, false, false},
		{of(2, 5, 0, 6, 5), true, false, false},
		{of(0, 5, 3), true, true, false},
		{of(5, 5, 3), true, false, false},
		{api.Label{Def: 2, Cats: row(1, 16, 4)}, true, true, true},
		{api.Label{Def: 2, Cats: []api.Entry{}}, true, true, true},
	} {
		if label.Right(x.l) != x.right || label.Plain(x.l) != x.plain || label.Free(x.l) != x.free {
			t.Error(x, label.Right(x.l), label.Plain(x.l), label.Free(x.l))
		}
	}
	for _, l := range wrong() {
		if label.Right(l) || label.Plain(l) || label.Free(l) {
			t.Error(l, label.Right(l), label.Plain(l), label.Free(l))
		}
	}
}

func TestMake(t *testing.T) {
	for _, x := range []struct {
		def  int
		cats []api.Entry
		want api.Label
		e    api.Errno
	}{
		{2, nil, of(2), api.OK},
		{0, nil, of(0), api.OK},
		{5, []api.Entry{}, of(5), api.OK},
		{2, entries(5, 0, 3, 4, 9, 2), of(2, 3, 4, 5, 0), api.OK},
		{2, entries(3, 4, 5, 0, 3, 4, 3, 4), of(2, 3, 4, 5, 0), api.OK},
		{2, entries(9, 2, 9, 2), of(2), api.OK},
		{3, entries(api.MaxId, 5, 1, 0), of(3, 1, 0, api.MaxId, 5), api.OK},

		{-1, nil, of(0), api.ErrArg},
		{6, nil, of(0), api.ErrArg},
		{2, entries(5, -1), of(0), api.ErrArg},
		{2, entries(5, 6), of(0), api.ErrArg},
		{2, entries(0, 4), of(0), api.ErrArg},
		{2, entries(0, 2), of(0), api.ErrArg},
		{2, entries(-1, 4), of(0), api.ErrArg},
		{2, entries(api.MaxId+1, 4), of(0), api.ErrArg},
		{2, entries(-1<<63, 4), of(0), api.ErrArg},
		{2, entries(1<<63-1, 4), of(0), api.ErrArg},

		{2, entries(5, 0, 5, 1), of(0), api.ErrForm},
		{2, entries(5, 2, 5, 4), of(0), api.ErrForm},
		{2, entries(5, 4, 6, 4, 5, 2), of(0), api.ErrForm},
		{2, entries(5, 4, 5, 3, 5, 4), of(0), api.ErrForm},

		{2, row(1, 16, 4), api.Label{Def: 2, Cats: row(1, 16, 4)}, api.OK},
		{2, row(1, 17, 4), of(0), api.ErrFull},
		{2, append(row(1, 16, 4), row(1, 16, 4)...), api.Label{Def: 2, Cats: row(1, 16, 4)}, api.OK},
		{2, append(row(1, 16, 4), row(30, 20, 2)...), api.Label{Def: 2, Cats: row(1, 16, 4)}, api.OK},
		{2, append(row(1, 16, 4), api.Entry{Cat: api.MaxId, Level: 0}), of(0), api.ErrFull},

		{2, entries(5, 0, 5, 1, 0, 4), of(0), api.ErrArg},
		{2, append(row(1, 17, 4), row(1, 1, 3)...), of(0), api.ErrForm},
		{2, append(row(1, 17, 4), row(1, 1, 9)...), of(0), api.ErrArg},
	} {
		got, e := label.Make(x.def, x.cats...)
		answers(t, "Make", got, e, x.want, x.e)
	}
}

func TestMakeTakesAnyOrder(t *testing.T) {
	want := api.Label{Def: 2, Cats: row(1, 16, 4)}
	cats := row(1, 16, 4)
	for range 16 {
		cats = append(cats[5:], cats[:5]...)
		got, e := label.Make(2, cats...)
		answers(t, "Make", got, e, want, api.OK)
	}
	slices.Reverse(cats)
	got, e := label.Make(2, cats...)
	answers(t, "Make", got, e, want, api.OK)
}

func TestAt(t *testing.T) {
	for _, x := range []struct {
		l         api.Label
		cat, want int
	}{
		{of(2, 3, 4, 5, 0), 3, 4},
		{of(2, 3, 4, 5, 0), 5, 0},
		{of(2, 3, 4, 5, 0), 4, 2},
		{of(2, 3, 4, 5, 0), api.MaxId, 2},
		{of(2), 1, 2},
		{of(3, 1, 4, api.MaxId, 1), 1, 4},
		{of(3, 1, 4, api.MaxId, 1), api.MaxId, 1},
		{of(3, 1, 4), 0, 3},
		{of(3, 1, 4), -1, 3},
		// Of labels that are not right, too.
		{of(2, 5, 4, 5, 3), 5, 4},
		{of(2, 9, 4, 5, 3), 5, 3},
		{of(2, 9, 4, 5, 3), 9, 4},
		{of(77, 5, -9), 5, -9},
		{of(77, 5, -9), 6, 77},
		{of(2, 0, 4), 0, 4},
		{of(2, -1<<63, 4), -1 << 63, 4},
		{of(2, 5, 2, 5, 4), 5, 2},
	} {
		if got := label.At(x.l, x.cat); got != x.want {
			t.Error(x, got)
		}
	}
}

func TestUpDown(t *testing.T) {
	for _, x := range []struct{ l, up, down api.Label }{
		{of(2), of(2), of(2)},
		{of(2, 5, 0), of(2, 5, 5), of(2, 5, 0)},
		{of(2, 5, 5), of(2, 5, 5), of(2, 5, 0)},
		{of(2, 3, 4, 5, 0, 6, 5), of(2, 3, 4, 5, 5, 6, 5), of(2, 3, 4, 5, 0, 6, 0)},
		{of(0), of(5), of(0)},
		{of(5), of(5), of(0)},
		{of(0, 3, 4, 5, 5), of(5, 3, 4), of(0, 3, 4)},
		{of(5, 3, 4, 5, 0), of(5, 3, 4), of(0, 3, 4)},
	} {
		if got := label.Up(x.l); !same(got, x.up) {
			t.Error("Up", x.l, got)
		}
		if got := label.Down(x.l); !same(got, x.down) {
			t.Error("Down", x.l, got)
		}
	}
	for _, l := range all() {
		up, down := label.Up(l), label.Down(l)
		if !label.Right(up) || !label.Right(down) {
			t.Error(l, up, down)
		}
		for _, p := range places() {
			at := label.At(l, p)
			if at == api.Star && label.At(up, p) != api.High || at != api.Star && label.At(up, p) != at {
				t.Error("Up", l, p, up)
			}
			if at == api.High && label.At(down, p) != api.Star || at != api.High && label.At(down, p) != at {
				t.Error("Down", l, p, down)
			}
		}
	}
}

func TestDownOfUp(t *testing.T) {
	for _, l := range append(all(), api.Label{Def: 2, Cats: row(1, 16, 0)}) {
		if got := label.Down(label.Up(l)); label.Plain(l) && !same(got, l) {
			t.Error(l, got)
		}
	}
}

func TestWith(t *testing.T) {
	full := api.Label{Def: 2, Cats: row(10, 16, 4)}
	for _, x := range []struct {
		l          api.Label
		cat, level int
		want       api.Label
		e          api.Errno
	}{
		{of(2), 5, 0, of(2, 5, 0), api.OK},
		{of(2), 5, 5, of(2, 5, 5), api.OK},
		{of(2), 5, 2, of(2), api.OK},
		{of(2, 5, 4), 5, 2, of(2), api.OK},
		{of(2, 5, 4), 5, 4, of(2, 5, 4), api.OK},
		{of(2, 5, 4), 5, 0, of(2, 5, 0), api.OK},
		{of(2, 5, 4), 3, 0, of(2, 3, 0, 5, 4), api.OK},
		{of(2, 5, 4), 9, 0, of(2, 5, 4, 9, 0), api.OK},
		{of(2, 5, 4), 1, 0, of(2, 1, 0, 5, 4), api.OK},
		{of(2, 5, 4), api.MaxId, 0, of(2, 5, 4, api.MaxId, 0), api.OK},
		{of(2, 3, 4, 9, 4), 5, 0, of(2, 3, 4, 5, 0, 9, 4), api.OK},

		{of(2), 0, 4, of(0), api.ErrArg},
		{of(2), 0, 2, of(0), api.ErrArg},
		{of(2), -1, 4, of(0), api.ErrArg},
		{of(2), -1 << 63, 4, of(0), api.ErrArg},
		{of(2), api.MaxId + 1, 4, of(0), api.ErrArg},
		{of(2), 5, -1, of(0), api.ErrArg},
		{of(2), 5, 6, of(0), api.ErrArg},
		{full, 0, 4, of(0), api.ErrArg},
		{full, 5, 6, of(0), api.ErrArg},

		{full, 5, 4, of(0), api.ErrFull},
		{full, 26, 4, of(0), api.ErrFull},
		{full, 5, 2, full, api.OK},
		{full, 10, 2, api.Label{Def: 2, Cats: row(11, 15, 4)}, api.OK},
		{full, 10, 4, full, api.OK},
		{full, 25, 0, api.Label{Def: 2, Cats: append(row(10, 15, 4), api.Entry{Cat: 25})}, api.OK},
		{api.Label{Def: 2, Cats: row(10, 15, 4)}, 25, 4, full, api.OK},
	} {
		got, e := label.With(x.l, x.cat, x.level)
		answers(t, "With", got, e, x.want, x.e)
	}
}
