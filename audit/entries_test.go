package audit_test

import (
	"slices"
	"testing"

	"gatehouse/api"
)

func TestEntries(t *testing.T) {
	allTold(t, []spoilt{
		{"one that names none", func(d []api.Object) { d[isBox].List = append(d[isBox].List, 99) }, is(5, api.BadEntry)},
		{"ends", func(d []api.Object) { d[isBox].List = append(d[isBox].List, least, 0, highest) }, is(5, api.BadEntry)},
		{"twice", func(d []api.Object) { d[isBox].List = append(d[isBox].List, 11) }, is(5, api.BadEntry, api.BadUsed)},
		{"twice, and used so", func(d []api.Object) {
			d[isBox].List = append(d[isBox].List, 11)
			d[isBox].Used += 100
		}, is(5, api.BadEntry)},
		{"three times, at the beginning", func(d []api.Object) {
			d[isBox].List = append([]int{17, 17}, d[isBox].List...)
			d[isBox].Used += 2
		}, is(5, api.BadEntry)},
		{"in another order", func(d []api.Object) { slices.Reverse(d[isRoot].List) }, nil},
		{"none", func(d []api.Object) { d[isSecret].List, d[isSecret].Used = nil, 0 }, is(12, api.BadLinks, api.BadReach)},
		{"moved", func(d []api.Object) {
			d[isBox].List, d[isBox].Used = append(d[isBox].List, 15), d[isBox].Used+1
			d[isRoot].List, d[isRoot].Used = slices.DeleteFunc(d[isRoot].List, func(id int) bool { return id == 15 }), d[isRoot].Used-1
		}, nil},
		{"of a device", func(d []api.Object) { d[isConsole].List = []int{99, 99, 12} }, is(2, api.BadField)},
	})
}

func TestLinks(t *testing.T) {
	links := func(o *api.Object) *int { return &o.Links }
	list := []spoilt{
		set(isRoot, 0, links, is(1, api.BadLinks)), set(isRoot, 2, links, is(1, api.BadLinks)),
		set(isCell, 1, links, is(10, api.BadLinks)), set(isCell, 3, links, is(10, api.BadLinks)), set(isDoorway, 1, links, is(17, api.BadLinks)),
	}
	for _, n := range []int{least, -1, 0, 2, highest} {
		list = append(list, set(isConsole, n, links, is(2, api.BadLinks)), set(isFirst, n, links, is(3, api.BadLinks)))
	}
	// The root may be an entry, of itself too: that is a link more.
	list = append(list,
		spoilt{"root in the box", func(d []api.Object) {
			d[isBox].List, d[isBox].Used, d[isBox].Quota = append(d[isBox].List, 1), d[isBox].Used+100, 20000
			d[isRoot].Quota, d[isRoot].Links = 100, 2
		}, is(1, api.BadUsed)},
		spoilt{"box in itself", func(d []api.Object) {
			d[isBox].List, d[isBox].Used, d[isBox].Links = append(d[isBox].List, 5), d[isBox].Used+20000, 2
		}, is(5, api.BadUsed)},
	)
	allTold(t, list)
}

func TestUsed(t *testing.T) {
	used := func(o *api.Object) *int { return &o.Used }
	quota := func(o *api.Object) *int { return &o.Quota }
	is5101 := rightDump(t)[isBox].Used
	if is5101 != 5101 {
		t.Fatal(is5101)
	}
	var list []spoilt
	for _, n := range []int{least, -1, 0, 5100, 5102, 20001, highest} {
		list = append(list, set(isBox, n, used, is(5, api.BadUsed)))
	}
	allTold(t, append(list,
		set(isBox, 5101, quota, is(1, api.BadUsed)),
		set(isBox, 5100, quota, is(1, api.BadUsed), is(5, api.BadUsed)),
		set(isConsole, 1, used, is(2, api.BadField)),
		set(isCell, -1, used, is(10, api.BadField)),
	))
}

// TestSumsGoRound: quotas that can't be are summed modulo 2^64.
func TestSumsGoRound(t *testing.T) {
	box := api.Object{Info: api.Info{Id: 1, Kind: api.Container, Quota: api.MaxQuota, Links: 1, Label: of("{1}")}, List: []int{2, 3}}
	first := api.Object{Info: api.Info{Id: 2, Kind: api.Device, Quota: highest, Links: 1, Label: of("{1}")}}
	second := first
	second.Id = 3
	box.Used = -2
	tells(t, "twice the highest", []api.Object{box, first, second}, 1, is(2, api.BadKind), is(3, api.BadKind))
	first.Quota, second.Quota, box.Used = least, least, 0
	tells(t, "twice the least", []api.Object{box, first, second}, 1, is(2, api.BadKind), is(3, api.BadKind))
	first.Quota, second.Quota, box.Used = highest, 1, least
	tells(t, "one above the highest", []api.Object{box, first, second}, 1, is(2, api.BadKind))
}

func TestReach(t *testing.T) {
	d := rightDump(t)
	// Two boxes that hold each other, and nothing else holds them.
	x := api.Object{Info: api.Info{Id: 40, Kind: api.Container, Quota: 9, Used: 9, Links: 1, Label: of("{1}")}, List: []int{41}}
	y := api.Object{Info: api.Info{Id: 41, Kind: api.Container, Quota: 9, Used: 9, Links: 1, Label: of("{1}")}, List: []int{40}}
	tells(t, "an island", append(d, x, y), 1, is(40, api.BadReach), is(41, api.BadReach))
	// And the same, held by the root.
	d = rightDump(t)
	d[isRoot].List, d[isRoot].Used, x.Links = append(d[isRoot].List, 40), d[isRoot].Used+9, 2
	tells(t, "no island", append(d, x, y), 1)

	// By way of what is no container nothing is reached, nor counted.
	d = rightDump(t)
	d[isSecret].Kind = api.Space
	tells(t, "no container", d, 1, is(6, api.BadField), is(12, api.BadLinks, api.BadReach))
}

// pairOf is a box 6 and a segment 12 in it, of these labels.
func pairOf(box, own api.Label) []api.Object {
	return []api.Object{
		{Info: api.Info{Id: 6, Kind: api.Container, Quota: 1, Used: 1, Links: 1, Label: box}, List: []int{12}},
		{Info: api.Info{Id: 12, Kind: api.Segment, Quota: 1, Links: 1, Label: own}},
	}
}

func TestTaint(t *testing.T) {
	for _, x := range []struct {
		box, own string
		kind     int
		wrong    bool
	}{
		{"{1 20:3}", "{1 20:3}", api.Segment, false},
		{"{1 20:3}", "{1}", api.Segment, true},
		{"{1 20:3}", "{1 20:2}", api.Segment, true},
		{"{1 20:2}", "{1 20:3}", api.Segment, false},
		{"{1 20:3}", "{3}", api.Device, false},
		{"{1 20:3}", "{3 20:2}", api.Device, true},
		{"{2}", "{1}", api.Container, true},
		{"{2}", "{1}", api.Space, true},
		{"{2}", "{1}", api.Gate, true},
		{"{2}", "{1}", api.Thread, false}, // threads may be anywhere
		{"{2}", "{3}", api.Segment, false},
		{"{2}", "{2 20:1}", api.Segment, true},
		{"{2 20:1}", "{2 20:0}", api.Segment, false}, // {1} is below none
		{"{1}", "{0}", api.Segment, false},
		{"{1}", "{1 20:0}", api.Segment, false},
		{"{0}", "{0 20:1}", api.Segment, false},
		{"{0 20:3}", "{0 20:2}", api.Segment, true},
		{"{1 20:3}", "{1 20:*}", api.Gate, false}, // what is owned counts as High
		{"{3}", "{*}", api.Gate, false},
		{"{3}", "{* 20:3}", api.Gate, false},
		{"{3}", "{* 20:2}", api.Gate, true},
		{"{1 20:3 21:3}", "{1 20:*}", api.Gate, true},
	} {
		d := pairOf(of(x.box), of(x.own))
		d[1].Kind = x.kind
		if x.kind == api.Thread || x.kind == api.Gate {
			d[1].Clear = of("{3}")
		}
		var want []api.Issue
		if x.wrong {
			want = is(12, api.BadTaint)
		}
		tells(t, x, d, 6, want)
	}
}

// TestTaintOfLabelsThatCantBe: it is asked where both labels are right, plain or not.
func TestTaintOfLabelsThatCantBe(t *testing.T) {
	for _, l := range notRight() {
		tells(t, l, pairOf(l, of("{1}")), 6, is(6, api.BadLabel))
		tells(t, l, pairOf(of("{3}"), l), 6, is(12, api.BadLabel))
		tells(t, l, pairOf(l, l), 6, is(6, api.BadLabel), is(12, api.BadLabel))
	}
	tells(t, "high in high", pairOf(of("{J}"), of("{J}")), 6, is(6, api.BadLabel), is(12, api.BadLabel))
	tells(t, "owned in high", pairOf(of("{J}"), of("{*}")), 6, is(6, api.BadLabel), is(12, api.BadLabel))
	tells(t, "low in high", pairOf(of("{1 5:J}"), of("{3}")), 6, is(6, api.BadLabel), is(12, api.BadTaint))
	tells(t, "low in owned", pairOf(of("{*}"), of("{0}")), 6, is(6, api.BadLabel))
	tells(t, "in itself", []api.Object{{Info: api.Info{Id: 6, Kind: api.Container, Quota: 1, Used: 1, Links: 2, Label: of("{3}")}, List: []int{6}}}, 6)
}

// TestTaintOfAll: of several containers each is asked, however many entries their labels have together; of several objects of one number each is.
func TestTaintOfAll(t *testing.T) {
	const boxes = 40
	for bad := -1; bad < boxes; bad++ {
		d := []api.Object{{Info: api.Info{Id: 1, Kind: api.Container, Quota: 1000, Used: boxes, Links: 1, Label: of("{1}")}}}
		for i := range boxes {
			l := long(16, api.L3)
			for c := range l.Cats {
				l.Cats[c].Cat = 1 + 16*i + c
			}
			if i == bad {
				l.Cats[7].Level = api.High
			}
			d[0].List = append(d[0].List, 2+i)
			d = append(d, api.Object{Info: api.Info{Id: 2 + i, Kind: api.Container, Quota: 1, Used: 1, Links: 1, Label: l}, List: []int{99}})
		}
		d = append(d, api.Object{Info: api.Info{Id: 99, Kind: api.Segment, Quota: 1, Links: boxes, Label: of("{3}")}})
		d = append(d, api.Object{Info: api.Info{Id: 99, Kind: api.Segment, Quota: 1, Links: boxes, Label: of("{2}")}})
		last := is(99, api.BadOrder, api.BadTaint)
		if bad < 0 {
			tells(t, "none", d, 1, last)
			continue
		}
		tells(t, bad, d, 1, is(2+bad, api.BadLabel), is(99, api.BadTaint), last)
	}
}
