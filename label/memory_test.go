package label_test

import (
	"slices"
	"testing"

	"gatehouse/api"
	"gatehouse/label"
)

// lent is a label in a row with spare room, and that whole row.
func lent(l api.Label) (api.Label, []api.Entry) {
	whole := append(slices.Clone(l.Cats), api.Entry{Cat: 77, Level: 77}, api.Entry{Cat: 78, Level: 78})
	return api.Label{Def: l.Def, Cats: whole[:len(l.Cats)]}, whole
}

// spoil writes over all of a label's memory, its spare room too.
func spoil(l api.Label) {
	whole := l.Cats[:cap(l.Cats)]
	for i := range whole {
		whole[i] = api.Entry{Cat: -9, Level: -9}
	}
}

// calls is every call that is handed a label and answers one, with a second label for those that take two.
func calls() []func(a, b api.Label) api.Label {
	with := func(cat, level int) func(a, b api.Label) api.Label {
		return func(a, _ api.Label) api.Label { l, _ := label.With(a, cat, level); return l }
	}
	return []func(a, b api.Label) api.Label{
		func(a, _ api.Label) api.Label { return label.Up(a) },
		func(a, _ api.Label) api.Label { return label.Down(a) },
		func(a, b api.Label) api.Label { l, _ := label.Join(a, b); return l },
		func(a, b api.Label) api.Label { l, _ := label.Meet(a, b); return l },
		func(a, _ api.Label) api.Label { l, _ := label.Make(a.Def, a.Cats...); return l },
		with(1, api.L3), with(4, api.L0), with(99, api.L2), with(4, api.L1),
		func(a, b api.Label) api.Label { // those that answer no label
			label.Right(a)
			label.Plain(a)
			label.Free(a)
			label.At(a, 4)
			label.Leq(a, b)
			label.Sees(a, b)
			label.Alters(a, b)
			label.Bytes(a)
			label.Text(a)
			return api.Label{}
		},
	}
}

func TestNothingHandedInChanges(t *testing.T) {
	for i, call := range calls() {
		for _, x := range handed() {
			a, wholeA := lent(x[0])
			b, wholeB := lent(x[1])
			keptA, keptB := slices.Clone(wholeA), slices.Clone(wholeB)
			got := call(a, b)
			spoil(got)
			if !slices.Equal(wholeA, keptA) || !slices.Equal(wholeB, keptB) {
				t.Error(i, x, wholeA, wholeB)
			}
		}
	}
}

func TestAnswersAreNewMemory(t *testing.T) {
	for i, call := range calls() {
		for _, x := range handed() {
			a, _ := lent(x[0])
			b, _ := lent(x[1])
			first, second := call(a, b), call(a, b)
			want := api.Label{Def: first.Def, Cats: slices.Clone(first.Cats)}
			spoil(second)
			spoil(a)
			spoil(b)
			if !same(first, want) {
				t.Error(i, x, first, want)
			}
		}
	}
	for _, call := range []func() (api.Label, api.Errno){
		func() (api.Label, api.Errno) { return label.Parse("{1 3:3 5:*}") },
		func() (api.Label, api.Errno) { return label.Read(label.Bytes(of(2, 3, 4, 5, 0))) },
	} {
		first, _ := call()
		second, _ := call()
		spoil(second)
		if !same(first, of(2, 3, 4, 5, 0)) {
			t.Error(first)
		}
	}
}

// handed is two labels each: of few entries, of none, of many, and the same one twice.
func handed() [][2]api.Label {
	full := api.Label{Def: 2, Cats: row(1, 16, 4)}
	return [][2]api.Label{
		{of(2, 3, 4, 4, 0), of(2, 4, 4, 9, 0)},
		{of(2, 9, 5, 4, 0, 3, 4), of(2)},
		{of(2), of(3, 4, 0)},
		{full, full},
		{full, of(2)},
		{of(2), full},
		{of(2, 3, 4), of(2, 3, 4)},
	}
}

func TestMakeLeavesItsRow(t *testing.T) {
	whole := entries(9, 4, 5, 2, 3, 0, 9, 4, 77, 77)
	kept := slices.Clone(whole)
	l, e := label.Make(2, whole[:4]...)
	answers(t, "Make", l, e, of(2, 3, 0, 9, 4), api.OK)
	spoil(l)
	if !slices.Equal(whole, kept) {
		t.Error(whole)
	}
}

// TestAnyLabel: of labels that are not right nothing is promised but that the calls end, without a panic.
func TestAnyLabel(t *testing.T) {
	labels := append(wrong(), of(2), of(2, 5, 4), of(-1<<63, 1<<63-1, -1<<63, -1<<63, 1<<63-1))
	for _, a := range labels {
		for _, b := range labels {
			for _, call := range calls() {
				call(a, b)
			}
			label.Leq(b, a)
			label.Sees(b, a)
			label.Alters(b, a)
		}
		for _, n := range []int{-1 << 63, -1, 0, 1, 5, 6, api.MaxId, api.MaxId + 1, 1<<63 - 1} {
			label.At(a, n)
			label.With(a, n, api.L3)
			label.With(a, 5, n)
			label.Make(n, a.Cats...)
		}
	}
}
