package audit_test

import (
	"fmt"
	"slices"
	"testing"

	"gatehouse/api"
	"gatehouse/audit"
)

// roomy answers a list of its own memory with spare room, in which there is a mark, too.
func roomy[T any](list []T, mark T) []T {
	return append(slices.Clone(list), mark, mark)[:len(list)]
}

// lent answers a dump of its own memory, all of whose lists have spare room.
func lent(d []api.Object) []api.Object {
	var list []api.Object
	for _, o := range d {
		o.Label.Cats, o.Clear.Cats = roomy(o.Label.Cats, api.Entry{Cat: 77}), roomy(o.Clear.Cats, api.Entry{Cat: 78})
		o.List, o.Alerts, o.Maps = roomy(o.List, 79), roomy(o.Alerts, 80), roomy(o.Maps, api.Map{At: 81})
		list = append(list, o)
	}
	return roomy(list, api.Object{Info: api.Info{Id: 82}})
}

// whole writes out all of a dump's memory, the spare room of all its lists too.
func whole(d []api.Object) string {
	list := slices.Clone(d[:cap(d)])
	for i, o := range list {
		list[i].Label.Cats, list[i].Clear.Cats = o.Label.Cats[:cap(o.Label.Cats)], o.Clear.Cats[:cap(o.Clear.Cats)]
		list[i].List, list[i].Alerts, list[i].Maps = o.List[:cap(o.List)], o.Alerts[:cap(o.Alerts)], o.Maps[:cap(o.Maps)]
	}
	return fmt.Sprintf("%+v", list)
}

// TestNothingIsChanged: neither the dump nor its spare room, whether right or not.
func TestNothingIsChanged(t *testing.T) {
	d := dice(123)
	for i := range 1500 {
		dump := some(&d, 12, d.object)
		if i%2 == 0 {
			dump = rightDump(t)
			for range d.roll(3) {
				dump = d.spoil(dump)
			}
		}
		dump = lent(dump)
		kept := whole(dump)
		list := audit.Check(dump, 1)
		audit.Right(dump, 1)
		clear(list[:cap(list)])
		if now := whole(dump); now != kept {
			t.Fatalf("%.4000s has become %.4000s", kept, now)
		}
	}
}

// TestAnswersAreNew: what is written over one answer isn't in another, and no answer hangs on the dump behind the call.
func TestAnswersAreNew(t *testing.T) {
	dump := rightDump(t)
	for i := range dump {
		dump[i].Links += 5
	}
	first, second := audit.Check(dump, 1), audit.Check(dump, 1)
	kept := slices.Clone(first)
	if len(kept) != many || !slices.Equal(first, second) {
		t.Fatal(first, second)
	}
	clear(second[:cap(second)])
	clear(dump)
	if !slices.Equal(first, kept) {
		t.Error("Check shares memory", first)
	}
	if third := audit.Check(lent(rightDump(t)), 1); len(third) > 0 {
		t.Error(third)
	}
}
