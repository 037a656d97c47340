package passage_test

import (
	"slices"
	"testing"

	"gatehouse/api"
	"gatehouse/passage"
)

// roomy is a label whose entries have spare room behind them, with a mark in it.
func roomy(l api.Label) api.Label {
	cats := append(slices.Clone(l.Cats), make([]api.Entry, 20)...)
	for i := range cats[len(l.Cats):] {
		cats[len(l.Cats)+i] = api.Entry{Cat: 77, Level: 77}
	}
	return api.Label{Def: l.Def, Cats: cats[:len(l.Cats)]}
}

// whole is all of a roomy label's memory.
func whole(l api.Label) []api.Entry { return slices.Clone(l.Cats[:cap(l.Cats)]) }

func TestNothingIsChanged(t *testing.T) {
	d := dice(51)
	for _, r := range rules() {
		for range 500 {
			l := made(d.columns(r))
			var ahead [][]api.Entry
			for i := range l {
				l[i] = roomy(l[i])
				ahead = append(ahead, whole(l[i]))
			}
			r.call(l)
			passage.Floor(l[0], l[1])
			passage.Own(l[0], l[1], 1+d.roll(50))
			for i := range l {
				if !slices.Equal(whole(l[i]), ahead[i]) {
					t.Fatal("changed", r.name, i)
				}
			}
		}
	}
}

func scribble(l api.Label) {
	cats := l.Cats[:cap(l.Cats)]
	for i := range cats {
		cats[i] = api.Entry{Cat: 99, Level: 99}
	}
}

func TestAnswersAreNewMemory(t *testing.T) {
	for _, x := range []struct{ t, c string }{{"{1 3:3}", "{2 4:3}"}, {"{* 3:3}", "{3 4:1}"}, {"{1 3:3}", "{1 3:3}"}, {"{1}", "{2}"}} {
		a, b := roomy(parse(t, x.t)), roomy(parse(t, x.c))
		wa, wb := whole(a), whole(b)
		p, q, e := passage.Own(a, b, 9)
		if e != api.OK {
			t.Fatal(e)
		}
		kept := slices.Clone(q.Cats)
		scribble(p)
		if !slices.Equal(q.Cats, kept) {
			t.Error("two answers share", x)
		}
		scribble(q)
		f, e := passage.Floor(a, b)
		if e != api.OK {
			t.Fatal(e)
		}
		scribble(f)
		if !slices.Equal(whole(a), wa) || !slices.Equal(whole(b), wb) {
			t.Error("an answer shares with an argument", x)
		}
	}
}

func TestNilAndEmptyAreTheSame(t *testing.T) {
	a, b := api.Label{Def: api.L1}, api.Label{Def: api.L1, Cats: []api.Entry{}}
	for _, r := range rules() {
		for n := range tuples(r.labels) {
			bare := made([]column{{0, tuple(n, r.labels)}})
			want := r.call(bare)
			for i := range bare {
				bare[i].Cats = []api.Entry{}
			}
			if r.call(bare) != want {
				t.Fatal(r.name, bare)
			}
		}
	}
	x, ex := passage.Floor(a, a)
	y, ey := passage.Floor(b, b)
	if ex != ey || !same(x, y) {
		t.Error(x, y)
	}
	p, q, ep := passage.Own(a, a, 5)
	r, s, er := passage.Own(b, b, 5)
	if ep != er || !same(p, r) || !same(q, s) {
		t.Error(p, q, r, s)
	}
}

// Of labels that aren't right only that the calls end: a panic fails the test.
func TestWrongLabelsEnd(t *testing.T) {
	bad := append(wrong(), of(api.L1), of(api.High), row(api.L1, 1, 16, api.Star))
	d := dice(61)
	for range 20000 {
		l := make([]api.Label, 6)
		for i := range l {
			l[i] = bad[d.roll(len(bad))]
		}
		for _, r := range rules() {
			r.call(l)
		}
		passage.Floor(l[0], l[1])
		passage.Own(l[0], l[1], l[2].Def)
		passage.Own(l[0], l[1], 5)
	}
}

func TestWrongLabelsAreNotTaken(t *testing.T) {
	one, top := of(api.L1), of(api.L3)
	for _, l := range wrong() {
		if e := passage.Rise(one, top, l); e != api.ErrArg {
			t.Error("Rise", l, e)
		}
		if e := passage.Clear(one, top, l); e != api.ErrArg {
			t.Error("Clear", l, e)
		}
		if e := passage.Lend(one, top, l, top); e != api.ErrArg {
			t.Error("Lend", l, e)
		}
		if e := passage.Lend(one, top, one, l); e != api.ErrArg {
			t.Error("Lend", l, e)
		}
		if e := passage.Enter(one, top, one, top, l, top); e != api.ErrArg {
			t.Error("Enter", l, e)
		}
		if e := passage.Enter(one, top, one, top, one, l); e != api.ErrArg {
			t.Error("Enter", l, e)
		}
	}
}
