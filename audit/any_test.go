package audit_test

import (
	"fmt"
	"slices"
	"strings"
	"testing"

	"gatehouse/api"
	"gatehouse/audit"
)

// number answers one of few numbers, seldom an end.
func (d *dice) number() int {
	if d.roll(12) == 0 {
		return pick(d, least, -1, 0, api.MaxId, api.MaxId+1, highest)
	}
	return 1 + d.roll(12)
}

// label answers one of few, seldom one that can't be an object's.
func (d *dice) label() api.Label {
	switch d.roll(8) {
	case 0:
		return pick(d, notFree()...)
	case 1, 2, 3:
		return pick(d, of("{1 20:3}"), of("{1 20:* 21:2}"), of("{2 20:0}"), of("{2}"), of("{3}"), of("{0}"), long(16, api.L3), long(16, api.L0))
	}
	return of("{1}")
}

// row answers bytes, seldom too many.
func (d *dice) row() string { return strings.Repeat("x", pick(d, 0, 0, 0, 1, 9, 4096, 4097)) }

// object answers an object that has something of many fields, whatever its kind.
func (d *dice) object() api.Object {
	number := func() int { return d.number() }
	o := api.Object{Info: api.Info{Id: d.number(), Kind: pick(d, 1, 1, d.roll(8)), Quota: d.number(), Used: d.roll(30), Links: d.roll(4), Label: d.label()}}
	o.List, o.Alerts = some(d, 5, number), some(d, 3, number)
	o.Maps = some(d, 3, func() api.Map { return api.Map{At: d.number(), Pages: 1, In: 1, Id: d.number()} })
	o.Bytes, o.Heard, o.Out, o.Clear = d.row(), d.row(), d.row(), d.label()
	o.Does, o.Seg, o.Off = d.roll(4), d.number(), d.number()
	return o
}

// spoil changes one thing of a dump, and answers that.
func (d *dice) spoil(list []api.Object) []api.Object {
	place := d.roll(len(list))
	o := &list[place]
	switch d.roll(16) {
	case 0:
		o.Id = d.number()
	case 1:
		o.Kind = d.roll(8)
	case 2:
		o.Quota = pick(d, 1, 0, -1, api.MaxQuota, api.MaxQuota+1, d.roll(6000))
	case 3:
		o.Label = d.label()
	case 4:
		o.Clear = d.label()
	case 5:
		o.List = append(slices.Clone(o.List), pick(d, list...).Id)
	case 6:
		o.List = o.List[:d.roll(1+len(o.List))]
	case 7:
		o.Links, o.Used = o.Links+d.roll(3)-1, o.Used+d.roll(3)-1
	case 8:
		o.Bytes, o.Heard, o.Out = d.row(), d.row(), d.row()
	case 9:
		o.Maps = some(d, 3, func() api.Map { return api.Map{At: d.roll(3), Pages: d.roll(3), In: 1, Id: 1 + d.roll(30)} })
	case 10:
		o.Does, o.Seg, o.Off = d.roll(4), pick(d, 0, 10, pick(d, list...).Id), pick(d, 0, -1, 4095, 4096)
	case 11:
		o.Alerts = some(d, 11, func() int { return pick(d, 0, 1, 255, 255, 256, -1) })
	case 12:
		o.Space, o.Entry, o.State.Pc = at(d.roll(2), d.roll(2)), uint64(d.roll(2)), uint64(d.roll(2))
	case 13:
		return slices.Delete(list, place, place+1)
	case 14:
		return slices.Insert(list, d.roll(1+len(list)), *o)
	case 15:
		return slices.Insert(list, place+d.roll(2), d.object())
	}
	return list
}

// told holds what is told of a dump against the model, and counts it.
func told(t *testing.T, d []api.Object, root int, count *[api.BadField + 1]int) {
	t.Helper()
	got, want := audit.Check(d, root), model(d, root)
	if !slices.Equal(got, want) {
		t.Fatalf("%.4000s, root %d: %v, not %v", fmt.Sprint(d), root, got, want)
	}
	_, ok := named(d, root)
	if right := ok && len(want) == 0; audit.Right(d, root) != right {
		t.Fatalf("%.4000s, root %d: Right is %t", fmt.Sprint(d), root, !right)
	}
	if len(want) == 0 {
		count[0]++
	}
	for _, i := range want {
		count[i.What]++
	}
}

// enough tells whether all that can be told was told often.
func enough(t *testing.T, count [api.BadField + 1]int) {
	t.Helper()
	for what, n := range count {
		if n < 20 {
			t.Error("only", n, "times", what)
		}
	}
}

// TestAnyDump: whatever objects, in whatever order, from whatever root.
func TestAnyDump(t *testing.T) {
	d, count := dice(12), [api.BadField + 1]int{}
	for range 6000 {
		told(t, some(&d, 12, d.object), pick(&d, 1, 1, d.number()), &count)
	}
	enough(t, count)
}

// TestSpoiltDump: a kernel's dump, of which few things are changed.
func TestSpoiltDump(t *testing.T) {
	d, count := dice(121), [api.BadField + 1]int{}
	for range 8000 {
		list := rightDump(t)
		for range d.roll(4) {
			list = d.spoil(list)
		}
		told(t, list, pick(&d, 1, 1, 1, 1, 1, 1, 1, d.number()), &count)
	}
	enough(t, count)
}
