package view_test

import (
	"slices"
	"testing"

	"gatehouse/api"
	"gatehouse/kern"
	"gatehouse/label"
	"gatehouse/view"
)

func TestLow(t *testing.T) {
	for _, x := range []struct {
		l, o string
		want bool
	}{
		{"{1}", "{1}", true},
		{"{1}", "{2}", false},
		{"{2}", "{1}", true},
		{"{1}", "{1 20:3}", false},
		{"{1 20:3}", "{1 20:3}", true},
		{"{1 20:2}", "{1 20:3}", false},
		{"{3}", "{1 20:3}", true},
		{"{3 20:1}", "{1}", true},
		{"{3 20:0}", "{1}", false}, // the observer's entry alone tells it
		{"{3 20:0}", "{1 20:0}", true},
		// What is owned is low for L3 alone.
		{"{3}", "{1 20:*}", true},
		{"{2}", "{1 20:*}", false},
		{"{2 20:3}", "{1 20:*}", true},
		{"{3 20:2}", "{1 20:*}", false},
		{"{3 21:2}", "{1 20:*}", true},
		{"{3 21:2}", "{*}", false},
		{"{3}", "{*}", true},
		{"{2 20:3}", "{*}", false},
		{"{2 20:3}", "{* 20:3}", false},
		{"{3 20:2}", "{* 20:2}", true},
		{"{1 20:3}", "{1 20:* 21:3}", false},
		{"{1 1:3 2305843009213693951:3}", "{1 1:* 2305843009213693951:3}", true},
	} {
		for kind := range 8 {
			if got := view.Low(of(x.l), object(5, kind, x.o)); got != x.want {
				t.Error(x, kind, got)
			}
		}
	}
}

func TestOwner(t *testing.T) {
	for _, x := range []struct {
		l, o string
		want bool
	}{
		{"{2}", "{1 20:*}", true},
		{"{3}", "{1 20:*}", false},
		{"{0}", "{1 20:*}", true},
		{"{1 20:3}", "{1 20:*}", false},
		{"{3 20:2}", "{1 20:*}", true},
		{"{3 20:0}", "{1}", false},
		{"{1}", "{1 20:3}", false}, // hidden, but no owner
		{"{1}", "{0}", false},
		{"{3 20:1}", "{*}", true},
		{"{3 20:1}", "{* 20:1}", false},
		{"{2 20:3}", "{*}", true},
		{"{3}", "{*}", false},
		{"{1 20:3}", "{1 20:* 21:*}", true},
		{"{1 20:3 21:3}", "{1 20:* 21:*}", false},
	} {
		for kind := range 8 {
			want := x.want && (kind == api.Thread || kind == api.Gate)
			if got := view.Owner(of(x.l), object(5, kind, x.o)); got != want {
				t.Error(x, kind, got)
			}
		}
	}
}

func TestLowAndOwnerOfAllLevels(t *testing.T) {
	for _, l := range observers() {
		for _, label := range all(api.Star) {
			o := api.Object{Info: api.Info{Id: 7, Label: label}}
			if got := view.Low(l, o); got != low(l, label) {
				t.Fatal("Low", l, label, got)
			}
			for o.Kind = range 8 {
				if got := view.Owner(l, o); got != owner(l, o) {
					t.Fatal("Owner", l, o, got)
				}
			}
		}
	}
}

// TestLowOfFullLabels: sixteen entries on either side, at other categories.
func TestLowOfFullLabels(t *testing.T) {
	full := func(def, first, level int) api.Label {
		l := api.Label{Def: def}
		for i := range api.MaxCats {
			l.Cats = append(l.Cats, api.Entry{Cat: first + i, Level: level})
		}
		return l
	}
	for _, x := range []struct {
		l, o       api.Label
		low, owner bool
	}{
		{full(api.L1, 1, api.L3), full(api.L1, 1, api.Star), true, false},
		{full(api.L1, 1, api.L3), full(api.L1, 2, api.Star), false, true},
		{full(api.L1, 17, api.L3), full(api.L1, 1, api.Star), false, true},
		{full(api.L3, 17, api.L1), full(api.L1, 1, api.Star), true, false},
		{full(api.L3, 16, api.L1), full(api.L1, 1, api.Star), false, true},
		{full(api.L1, 1, api.L3), full(api.L1, 2, api.L3), false, false},
		{full(api.L3, 17, api.L0), full(api.L1, 1, api.L3), false, false},
	} {
		o := api.Object{Info: api.Info{Kind: api.Gate, Label: x.o}}
		if view.Low(x.l, o) != x.low || view.Owner(x.l, o) != x.owner {
			t.Error(x, view.Low(x.l, o), view.Owner(x.l, o))
		}
	}
}

// TestAnyLabelEnds: of labels that can't be nothing is promised but that the calls end, without a panic, however long those are.
func TestAnyLabelEnds(t *testing.T) {
	endless := api.Label{Def: api.L3, Cats: make([]api.Entry, 1<<20)}
	for i := range endless.Cats {
		endless.Cats[i] = api.Entry{Cat: i + 1, Level: api.Star}
	}
	list := append(notFree(), endless, of("{1}"), of("{3}"))
	for _, l := range list {
		for _, label := range list {
			for kind := range 8 {
				o := api.Object{Info: api.Info{Id: 1, Kind: kind, Label: label}}
				view.Low(l, o)
				view.Owner(l, o)
			}
		}
	}
}

func TestDump(t *testing.T) {
	k, _ := kern.New(api.Boot{Root: 30, Console: 20, Thread: 10})
	one := of("{1}")
	for i, c := range []api.Call{
		{Op: api.CallCell, P: at(30, 0), L: one, A: 10, B: 3},
		{Op: api.CallBox, P: at(30, 0), L: one, A: 100},
		{Op: api.CallSpace, P: at(6, 0), L: one, A: 1},
		{Op: api.CallMap, P: at(6, 7), Map: api.Map{Pages: 1, In: 30, Id: 5}},
		{Op: api.CallDoor, P: at(6, 0), Q: at(6, 7), L: one, M: of("{2}"), A: 1, B: 4},
		{Op: api.CallWrite, P: at(30, 5), S: "ab"},
	} {
		if _, e := k.Do(10, c, 5+i); e != api.OK {
			t.Fatal(c, e)
		}
	}
	k.Put(20, "in")
	d := view.Dump(k)
	var ids []int
	for _, o := range d {
		ids = append(ids, o.Id)
		if want, ok := k.Object(o.Id); !ok || !view.Same([]api.Object{o}, []api.Object{want}) {
			t.Errorf("%+v, not %+v", o, want)
		}
	}
	equal(t, "numbers", ids, []int{5, 6, 7, 9, 10, 20, 30})
	if d[0].Bytes != "ab\x00" || d[0].Links != 1 || d[5].Heard != "in" || len(d[2].Maps) != 1 || d[3].Entry != 4 || d[6].Used != 112 {
		t.Errorf("%+v", d)
	}
	if d := view.Dump(nil); len(d) > 0 {
		t.Error(d)
	}
}

// TestDumpIsNewMemory: what is written over a dump isn't written into the kernel, nor into another dump.
func TestDumpIsNewMemory(t *testing.T) {
	k := furnished(t)
	k.Do(30, api.Call{Op: api.CallPost, P: at(1, 30), A: 7}, 0)
	d, other, want := view.Dump(k), view.Dump(k), view.Dump(k.Copy())
	lists := 0
	for _, o := range d {
		lists += len(o.Maps) + len(o.Alerts) + len(o.Clear.Cats)
	}
	if !view.Same(d, want) || lists == 0 {
		t.Fatal("not a dump to write over")
	}
	spoil(d)
	if view.Same(d, want) || !view.Same(other, want) || !view.Same(view.Dump(k), want) {
		t.Error("a dump shares memory")
	}
}

// TestExample: the chapter's.
func TestExample(t *testing.T) {
	d := []api.Object{box(1, 2, 3, 4), object(2, api.Segment, "{1}"), object(3, api.Segment, "{1 20:3}"), object(4, api.Thread, "{1 20:*}")}
	equal(t, "{1}", view.Visible(d, 1, of("{1}")), []int{1, 2})
	equal(t, "{2}", view.Visible(d, 1, of("{2}")), []int{1, 2})
	equal(t, "{3}", view.Visible(d, 1, of("{3}")), []int{1, 2, 3, 4})
	if !view.Owner(of("{2}"), d[3]) || view.Owner(of("{3}"), d[3]) || view.Low(of("{2}"), d[3]) || !view.Low(of("{3}"), d[3]) {
		t.Error("the thread")
	}
}

// TestMoreByTheLabel: whoever has the greater label sees all that the other one sees (P11.2).
func TestMoreByTheLabel(t *testing.T) {
	d, more := dice(112), 0
	for range 300 {
		dump, root := d.dump()
		for range 200 {
			a, b := pick(&d, observers()...), pick(&d, observers()...)
			if !label.Leq(a, b) {
				continue
			}
			lesser, greater := view.Visible(dump, root, a), view.Visible(dump, root, b)
			for _, id := range lesser {
				if !slices.Contains(greater, id) {
					t.Fatalf("%v sees %d, %v doesn't: %+v", a, id, b, dump)
				}
			}
			if len(lesser) > 1 && len(greater) > len(lesser) {
				more++
			}
		}
	}
	if more < 100 {
		t.Error("only", more, "saw more")
	}
}

// TestLowForMore: what is low for an observer is so for each above it; who is an owner for one is so for each below it.
func TestLowForMore(t *testing.T) {
	for _, a := range observers() {
		for _, b := range observers() {
			if !label.Leq(a, b) {
				continue
			}
			for _, l := range all(api.Star) {
				o := api.Object{Info: api.Info{Kind: api.Thread, Label: l}}
				if view.Low(a, o) && !view.Low(b, o) || view.Owner(b, o) && !view.Owner(a, o) {
					t.Fatal(a, b, l)
				}
			}
		}
	}
}
