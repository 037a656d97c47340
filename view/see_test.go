package view_test

import (
	"slices"
	"testing"

	"gatehouse/api"
	"gatehouse/view"
)

func TestVisibleEdges(t *testing.T) {
	secret := func(id int, list ...int) api.Object { return object(id, api.Container, "{1 20:3}", list...) }
	cell := func(id int, list ...int) api.Object { return object(id, api.Segment, "{1}", list...) }
	thread := object(4, api.Thread, "{1 20:*}", 5)
	for _, x := range []struct {
		what string
		d    []api.Object
		root int
		l    string
		want []int
	}{
		{"nothing", nil, 1, "{3}", nil},
		{"no root", []api.Object{box(1, 2), cell(2)}, 3, "{3}", nil},
		{"a root that is an entry of what isn't asked", []api.Object{box(1, 2), cell(2)}, 2, "{3}", []int{2}},
		{"a hidden root", []api.Object{secret(1, 2), cell(2)}, 1, "{1}", nil},
		{"a root that is no container", []api.Object{cell(1, 2), cell(2)}, 1, "{1}", []int{1}},
		{"an entry that there isn't", []api.Object{box(1, 9, 2, 0, -1, least, highest), cell(2)}, 1, "{1}", []int{1, 2}},
		{"no entry of any", []api.Object{box(1), cell(2)}, 1, "{3}", []int{1}},
		{"an entry twice", []api.Object{box(1, 2, 2, 2), cell(2)}, 1, "{1}", []int{1, 2}},
		{"the root in itself", []api.Object{box(1, 1, 2), cell(2)}, 1, "{1}", []int{1, 2}},
		{"containers in each other", []api.Object{box(1, 2), box(2, 3), box(3, 1, 2, 4), cell(4)}, 1, "{1}", []int{1, 2, 3, 4}},
		{"behind a hidden container", []api.Object{box(1, 2), secret(2, 3), cell(3)}, 1, "{1}", []int{1}},
		{"behind a hidden container and a visible one", []api.Object{box(1, 2, 4), secret(2, 3), cell(3), box(4, 3)}, 1, "{1}", []int{1, 3, 4}},
		{"a list of what is no container", []api.Object{box(1, 2, 4), cell(2, 3), cell(3), thread, cell(5)}, 1, "{3}", []int{1, 2, 4}},
		{"a list of a kind that can't be", []api.Object{box(1, 2), object(2, 0, "{1}", 3), cell(3), object(7, 7, "{1}", 3)}, 1, "{3}", []int{1, 2}},
		{"no order", []api.Object{cell(9), box(5, 9, 3), cell(3), box(1, 7, 5), cell(7)}, 1, "{1}", []int{1, 3, 5, 7, 9}},
		{"numbers that can't be", []api.Object{box(0, -5, highest, least), cell(highest), cell(least), cell(-5)}, 0, "{1}", []int{least, -5, 0, highest}},
		{"a number twice, the first hidden", []api.Object{box(1, 2), secret(2, 3), box(2, 4), cell(3), cell(4)}, 1, "{1}", []int{1}},
		{"a number twice, the second hidden", []api.Object{box(1, 2), box(2, 4), secret(2, 3), cell(3), cell(4)}, 1, "{1}", []int{1, 2, 4}},
		{"a root twice, the first hidden", []api.Object{secret(1, 2), box(1, 3), cell(2), cell(3)}, 1, "{1}", nil},
		{"a root twice, both low", []api.Object{box(1, 2), box(1, 3), cell(2), cell(3)}, 1, "{1}", []int{1, 2}},
		{"an owner, not for L3", []api.Object{box(1, 4), thread}, 1, "{2}", []int{1}},
		{"an owner for L3 there", []api.Object{box(1, 4), thread}, 1, "{2 20:3}", []int{1, 4}},
		{"an observer below the root", []api.Object{box(1, 2), object(2, api.Segment, "{0}")}, 1, "{0}", nil},
		{"below the root at one category", []api.Object{box(1, 2), object(2, api.Segment, "{1 20:0}")}, 1, "{3 20:0}", nil},
	} {
		equal(t, x.what, view.Visible(x.d, x.root, of(x.l)), x.want)
		equal(t, x.what+", by the model", visible20(x.d, x.root, x.l), x.want)
	}
}

// visible20 is the model's answer, with the category 1 in the place of 20.
func visible20(d []api.Object, root int, l string) []int {
	turned := func(l api.Label) api.Label {
		l.Cats = slices.Clone(l.Cats)
		for i := range l.Cats {
			l.Cats[i].Cat = 1
		}
		return l
	}
	d = slices.Clone(d)
	for i := range d {
		d[i].Label = turned(d[i].Label)
	}
	return visible(d, root, turned(of(l)))
}

func TestObserversThatArentFree(t *testing.T) {
	d := []api.Object{box(1, 2), object(2, api.Thread, "{1 20:*}"), object(3, api.Segment, "{*}")}
	for _, l := range notFree() {
		for root := range 4 {
			if ids, list := view.Visible(d, root, l), view.See(d, root, l); len(ids)+len(list) > 0 {
				t.Error(l, root, ids, list)
			}
		}
	}
}

func TestObjectsThatArentPlain(t *testing.T) {
	for _, l := range notPlain() {
		d := []api.Object{box(1, 2, 3), box(2, 4), object(3, api.Segment, "{1}"), object(4, api.Segment, "{1}")}
		d[1].Label = l
		equal(t, l, view.Visible(d, 1, of("{3}")), []int{1, 3})
		equal(t, l, view.Visible(d, 2, of("{3}")), nil)
	}
	// What isn't free may be seen, whatever its kind.
	d := []api.Object{object(1, api.Container, "{1 5:*}", 2), object(2, api.Segment, "{*}")}
	equal(t, "owners", view.Visible(d, 1, of("{3}")), []int{1, 2})
}

// TestDeep: a row of containers, each in the one ahead of it; and one container of very many entries.
func TestDeep(t *testing.T) {
	const n = 1 << 16
	var deep []api.Object
	for i := n; i > 0; i-- {
		deep = append(deep, box(i, i+1, 1, i))
	}
	wide := []api.Object{box(1)}
	for i := 2; i <= n; i++ {
		wide[0].List = append(wide[0].List, n+2-i)
		wide = append(wide, object(i, api.Segment, "{1}"))
	}
	var want []int
	for i := range n {
		want = append(want, i+1)
	}
	for _, d := range [][]api.Object{deep, wide} {
		if got := view.Visible(d, 1, of("{1}")); !slices.Equal(got, want) {
			t.Error(len(got), "visible")
		}
		if got := view.See(d, 1, of("{1}")); len(got) != n || got[n-1].Id != n {
			t.Error(len(got), "seen")
		}
	}
}

func TestSee(t *testing.T) {
	d := []api.Object{object(7, api.Segment, "{1}"), box(1, 7, 8, 5), object(8, api.Segment, "{1 20:3}"), object(5, api.Gate, "{1 20:0}"), object(7, api.Space, "{1}"), box(9)}
	for i := range d {
		d[i].Quota, d[i].Links, d[i].Used, d[i].Bytes, d[i].Out = 100+i, 1+i, 20+i, "b", "o"
	}
	gate, segment, root := d[3], d[0], d[1]
	gate.Links, segment.Links, root.Links = 0, 0, 0
	if got := view.See(d, 1, of("{1}")); !view.Same(got, []api.Object{root, gate, segment}) {
		t.Errorf("%+v", got)
	}
	if got := view.See(d, 8, of("{1}")); len(got) > 0 {
		t.Errorf("%+v", got)
	}
}

// TestAnyDump: whatever dumps, Visible and See answer what the chapter says.
func TestAnyDump(t *testing.T) {
	d, count := dice(11), [8]int{}
	for range 6000 {
		dump, root := d.dump()
		l := pick(&d, observers()...)
		switch d.roll(8) {
		case 0:
			l = pick(&d, notFree()...)
		case 1, 2, 3:
			l = pick(&d, of("{3}"), of("{1 1:3}"), of("{2}"))
		}
		ids := visible(dump, root, l)
		if got := view.Visible(dump, root, l); !slices.Equal(got, ids) {
			t.Fatalf("%+v, root %d, %v: %v, not %v", dump, root, l, got, ids)
		}
		var want []api.Object
		for _, o := range firsts(dump) {
			if slices.Contains(ids, o.Id) {
				o.Links = 0
				want = append(want, o)
			}
		}
		slices.SortFunc(want, func(a, b api.Object) int {
			if a.Id < b.Id {
				return -1
			}
			return 1
		})
		if got := view.See(dump, root, l); !view.Same(got, want) {
			t.Fatalf("%+v, root %d, %v: %+v, not %+v", dump, root, l, got, want)
		}
		count[min(len(ids), 7)]++
	}
	for n, many := range count {
		if many < 50 {
			t.Error("only", many, "dumps of which", n, "objects are visible")
		}
	}
}
