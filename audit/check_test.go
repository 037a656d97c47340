package audit_test

import (
	"slices"
	"testing"

	"gatehouse/api"
	"gatehouse/audit"
	"gatehouse/kern"
	"gatehouse/view"
)

// spoilt is a right dump that is changed, and what is told of it then.
type spoilt struct {
	name   any
	change func(d []api.Object)
	want   []api.Issue
}

// allTold holds what is told of each against what is to be told, and against the model.
func allTold(t *testing.T, list []spoilt) {
	t.Helper()
	for _, x := range list {
		d := rightDump(t)
		x.change(d)
		tells(t, x.name, d, 1, x.want)
		tells(t, x.name, d, 1, model(d, 1))
	}
}

// set is a spoilt dump, one of whose objects has another number somewhere.
func set(place, n int, field func(o *api.Object) *int, want ...[]api.Issue) spoilt {
	change := func(d []api.Object) { *field(&d[place]) = n }
	return spoilt{[]int{place, n}, change, slices.Concat(want...)}
}

// TestExample: the chapter's.
func TestExample(t *testing.T) {
	k, _ := kern.New(api.Boot{Root: 1, Console: 2, Thread: 3})
	d := view.Dump(k)
	tells(t, "new", d, 1)
	d[1].Links = 2
	tells(t, "links", d, 1, is(2, api.BadLinks))
	tells(t, "without the thread", view.Dump(k)[:2], 1, is(1, api.BadEntry, api.BadUsed))
}

func TestNothing(t *testing.T) {
	for _, root := range []int{least, -1, 0, 1, api.MaxId, highest} {
		tells(t, "nil", nil, root)
		tells(t, "empty", []api.Object{}, root)
	}
}

// TestRootIsAsked: of a dump with nothing wrong but that it has no such root, all is told, but not of the root.
func TestRootIsAsked(t *testing.T) {
	d := rightDump(t)
	tells(t, "right", d, 1)
	for _, root := range []int{0, 4, 99, -1, least, highest} {
		got := audit.Check(d, root)
		if !slices.Equal(got, model(d, root)) || len(got) != 1+len(d) || audit.Right(d, root) {
			t.Error(root, got)
		}
	}
	// A dump that can't be wrong, but isn't there, isn't right; one object of no links is told of by itself.
	o := api.Object{Info: api.Info{Id: 7, Kind: api.Container, Quota: 1, Links: 1, Label: of("{1}")}}
	tells(t, "alone", []api.Object{o}, 7)
	tells(t, "another root", []api.Object{o}, 8, is(7, api.BadLinks, api.BadReach))
	o.Id, o.Links, o.Quota = api.MaxId, 1, api.MaxQuota
	tells(t, "the greatest", []api.Object{o}, api.MaxId)
	for _, id := range []int{0, -1, least, api.MaxId + 1, highest} {
		o.Id = id
		tells(t, id, []api.Object{o}, id, is(id, api.BadOrder))
	}
}

func TestOrder(t *testing.T) {
	d := rightDump(t)
	slices.Reverse(d)
	var want []api.Issue
	for _, o := range d[1:] {
		want = append(want, api.Issue{Id: o.Id, What: api.BadOrder})
	}
	tells(t, "reversed", d, 1, want)

	d = rightDump(t)
	d[isCell], d[isInner] = d[isInner], d[isCell]
	tells(t, "two the other way about", d, 1, is(10, api.BadOrder))

	// The one right ahead is asked, not the greatest ahead.
	d = rightDump(t)
	last := d[isAlerted]
	d = append([]api.Object{last}, d[:isAlerted]...)
	tells(t, "the last one first", d, 1, is(1, api.BadOrder))
}

// TestTwins: several objects of one number. The first one is named; what is told of the others is told by what they are.
func TestTwins(t *testing.T) {
	d := rightDump(t)
	tells(t, "the same", slices.Insert(d, isCell, d[isCell]), 1, is(10, api.BadOrder))

	d = rightDump(t)
	other := api.Object{Info: api.Info{Id: 10, Kind: api.Segment, Quota: 7, Links: 2, Label: of("{0}")}}
	tells(t, "another behind it", slices.Insert(d, isCell+1, other), 1, is(10, api.BadOrder))
	tells(t, "another ahead of it", slices.Insert(rightDump(t), isCell, other), 1, is(1, api.BadUsed), is(5, api.BadUsed), is(10, api.BadOrder))

	// The first one is no Segment any more: who waits there waits nowhere.
	other = api.Object{Info: api.Info{Id: 10, Kind: api.Device, Quota: 5000, Links: 2, Label: of("{1}")}}
	tells(t, "a device behind it", slices.Insert(rightDump(t), isCell+1, other), 1, is(10, api.BadOrder))
	tells(t, "a device ahead of it", slices.Insert(rightDump(t), isCell, other), 1, is(10, api.BadOrder), is(30, api.BadWait))

	// A second box 5: its entries have one link more, but it isn't gone through. Each Container counts.
	other = api.Object{Info: api.Info{Id: 5, Kind: api.Container, Quota: 20000, Used: 100, Links: 1, Label: of("{1}")}, List: []int{11}}
	tells(t, "a box behind it", slices.Insert(rightDump(t), isBox+1, other), 1, is(5, api.BadOrder), is(11, api.BadLinks))
	tells(t, "a box ahead of it", slices.Insert(rightDump(t), isBox, other), 1, is(5, api.BadOrder), is(11, api.BadLinks))
	other.List, other.Used = []int{40}, 1
	lone := api.Object{Info: api.Info{Id: 40, Kind: api.Device, Quota: 1, Links: 1, Label: of("{1}")}}
	tells(t, "in the second box alone", append(slices.Insert(rightDump(t), isBox+1, other), lone), 1, is(5, api.BadOrder), is(40, api.BadReach))

	// A second root: each has a link more than containers hold it.
	d = rightDump(t)
	tells(t, "two roots", slices.Insert(d, 1, api.Object{Info: api.Info{Id: 1, Kind: api.Container, Quota: 1, Links: 1, Label: of("{1}")}}), 1, is(1, api.BadOrder))
	d = rightDump(t)
	tells(t, "another root, a device", slices.Insert(d, 1, api.Object{Info: api.Info{Id: 1, Kind: api.Device, Quota: 1, Links: 1, Label: of("{1}")}}), 1, is(1, api.BadOrder, api.BadKind))
}

// TestRootOfAnotherKind: that nothing is reached then is told of all others.
func TestRootOfAnotherKind(t *testing.T) {
	d := rightDump(t)[:2]
	d[0].Kind, d[0].List, d[0].Used = api.Device, nil, 0
	tells(t, "a device", d, 1, is(1, api.BadKind), is(2, api.BadLinks, api.BadReach))
	tells(t, "another root", d, 2, is(1, api.BadLinks, api.BadReach), is(2, api.BadKind))
	d[0].List = []int{2}
	tells(t, "a device with a list", d, 1, is(1, api.BadKind, api.BadField), is(2, api.BadLinks, api.BadReach))
	d[0].Kind = 0
	tells(t, "no kind", d, 1, is(1, api.BadKind), is(2, api.BadLinks, api.BadReach))
}

// TestDeep: a row of containers, each in the one ahead of it; one container of very many entries; very many objects of one number, each with that as an entry.
func TestDeep(t *testing.T) {
	const n = 1 << 16
	box := func(id, quota, links int, list ...int) api.Object {
		return api.Object{Info: api.Info{Id: id, Kind: api.Container, Quota: quota, Links: links, Label: of("{1}")}, List: list}
	}
	var deep, same []api.Object
	wide := []api.Object{box(1, api.MaxQuota, 1)}
	wide[0].Used = n - 1
	for i := range n {
		deep = append(deep, box(i+1, n-i, 1, i+2))
		deep[i].Used = n - i - 1
		same = append(same, box(1, 5, n+1, 1))
		same[i].Used = 5
		if i > 0 {
			wide[0].List = append(wide[0].List, n+1-i)
			wide = append(wide, box(i+1, 1, 1))
		}
	}
	deep[n-1].List = nil
	tells(t, "deep", deep, 1)
	tells(t, "wide", wide, 1)
	var want []api.Issue
	for range n - 1 {
		want = append(want, api.Issue{Id: 1, What: api.BadOrder})
	}
	tells(t, "same", same, 1, want)
	tells(t, "behind the end", deep[1:], 2)
}

// TestAllAtOnce: what is wrong is told in the order of the numbers.
func TestAllAtOnce(t *testing.T) {
	bad := api.Object{
		Info: api.Info{Id: -5, Kind: api.Thread, Label: of("{J}"), Used: 1},
		Does: 9, Alerts: []int{-1}, Bytes: "x",
	}
	tells(t, "a thread", []api.Object{bad}, -5, is(-5, api.BadOrder, api.BadKind, api.BadLabel, api.BadClear, api.BadLinks, api.BadWait, api.BadLine, api.BadField))
	bad = api.Object{Info: api.Info{Id: 0, Kind: api.Container, Label: of("{*}"), Used: 1}, List: []int{7}, Heard: "h"}
	tells(t, "a container", []api.Object{bad}, 1, is(0, api.BadOrder, api.BadKind, api.BadLabel, api.BadEntry, api.BadUsed, api.BadReach, api.BadField))
}
