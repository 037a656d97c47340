package view_test

import (
	"slices"
	"testing"

	"gatehouse/api"
	"gatehouse/view"
)

// roomy answers a list with spare room, in which there is a mark, too.
func roomy[T any](list []T, mark T) []T {
	return append(slices.Clone(list), mark, mark)[:len(list)]
}

// lent answers a dump of its own memory, all of whose lists have spare room.
func lent(d []api.Object) []api.Object {
	var list []api.Object
	for _, o := range d {
		o.Label.Cats, o.Clear.Cats = roomy(o.Label.Cats, api.Entry{Cat: 77}), roomy(o.Clear.Cats, api.Entry{Cat: 78})
		o.List, o.Alerts, o.Maps = roomy(o.List, 79), roomy(o.Alerts, 80), roomy(o.Maps, api.Map{At: 81})
		list = append(list, o)
	}
	return roomy(list, box(82))
}

// whole writes out all of a dump's memory, the spare room of all its lists too.
func whole(d []api.Object) string {
	list := slices.Clone(d[:cap(d)])
	for i, o := range list {
		list[i].Label.Cats, list[i].Clear.Cats = o.Label.Cats[:cap(o.Label.Cats)], o.Clear.Cats[:cap(o.Clear.Cats)]
		list[i].List, list[i].Alerts, list[i].Maps = o.List[:cap(o.List)], o.Alerts[:cap(o.Alerts)], o.Maps[:cap(o.Maps)]
	}
	return plainly(list)
}

// scrawl writes over a list and its spare room.
func scrawl[T any](list []T, mark T) {
	list = list[:cap(list)]
	for i := range list {
		list[i] = mark
	}
}

// spoil writes over all lists of a dump's objects.
func spoil(d []api.Object) {
	for _, o := range d {
		scrawl(o.Label.Cats, api.Entry{Cat: -9, Level: -9})
		scrawl(o.Clear.Cats, api.Entry{Cat: -8, Level: -8})
		scrawl(o.List, -7)
		scrawl(o.Alerts, -6)
		scrawl(o.Maps, api.Map{At: -5})
	}
}

// stuffed answers a dump, all of whose objects are visible and have something in every list.
func stuffed() []api.Object {
	d := []api.Object{full(), full(), full()}
	for i := range d {
		d[i].Id, d[i].Kind, d[i].Label, d[i].List = 3-i, api.Container, of("{1 20:3}"), []int{1, 2, 3}
	}
	return d
}

func TestNothingIsChanged(t *testing.T) {
	d := dice(113)
	for range 1000 {
		dump, root := d.dump()
		if d.roll(4) == 0 {
			dump = stuffed()
		}
		dump = lent(dump)
		l := api.Label{Def: api.L3}
		l.Cats = roomy([]api.Entry{{Cat: 21, Level: api.L2}}, api.Entry{Cat: 22})
		kept, cats := whole(dump), slices.Clone(l.Cats[:cap(l.Cats)])
		view.Visible(dump, root, l)
		seen := view.See(dump, root, l)
		spoil(seen)
		scrawl(seen, api.Object{})
		view.Same(dump, dump)
		for _, o := range dump {
			view.Low(l, o)
			view.Owner(l, o)
		}
		if whole(dump) != kept || !slices.Equal(l.Cats[:cap(l.Cats)], cats) {
			t.Fatalf("%s has become %s, %v %v", kept, whole(dump), cats, l)
		}
	}
}

func TestAnswersAreNew(t *testing.T) {
	dump := lent(stuffed())
	first, second := view.See(dump, 1, of("{3}")), view.See(dump, 1, of("{3}"))
	kept := plainly(first)
	if len(first) != 3 || plainly(second) != kept {
		t.Fatal(kept)
	}
	spoil(second)
	scrawl(second, api.Object{})
	spoil(dump)
	scrawl(dump, api.Object{})
	if plainly(first) != kept {
		t.Error("See shares memory", kept, first)
	}

	dump = stuffed()
	ids, others := view.Visible(dump, 1, of("{3}")), view.Visible(dump, 1, of("{3}"))
	scrawl(others, -1)
	for i := range dump {
		scrawl(dump[i].List, -2)
	}
	equal(t, "Visible shares memory", ids, []int{1, 2, 3})
}

// TestListsOfOneAnswerAreApart: even where the dump's objects share theirs.
func TestListsOfOneAnswerAreApart(t *testing.T) {
	list, cats := []int{1, 2, 2}, of("{1 20:3}")
	d := []api.Object{full(), full()}
	for i := range d {
		d[i].Id, d[i].Kind, d[i].Label, d[i].Clear, d[i].List, d[i].Alerts, d[i].Maps = 1+i, api.Container, cats, cats, list, list, d[0].Maps
	}
	want := view.See(d, 1, of("{3}"))
	for i := range d {
		for j, change := range []func(o *api.Object){
			func(o *api.Object) { o.Label.Cats[0].Cat = 5 },
			func(o *api.Object) { o.Clear.Cats[0].Cat = 5 },
			func(o *api.Object) { o.List[0] = 5 },
			func(o *api.Object) { o.Alerts[0] = 5 },
			func(o *api.Object) { o.Maps[0].At = 50 },
		} {
			got, ought := view.See(d, 1, of("{3}")), plainly(want)
			change(&got[i])
			if plainly(got) == ought {
				t.Error(i, j, "not changed")
			}
			back := view.See(d, 1, of("{3}"))
			switch j { // undone there, nothing else may be unlike
			case 0:
				got[i].Label = back[i].Label
			case 1:
				got[i].Clear = back[i].Clear
			case 2:
				got[i].List = back[i].List
			case 3:
				got[i].Alerts = back[i].Alerts
			case 4:
				got[i].Maps = back[i].Maps
			}
			if plainly(got) != ought {
				t.Error(i, j, "two lists share memory")
			}
		}
	}
}
