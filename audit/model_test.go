package audit_test

import (
	"slices"

	"gatehouse/api"
	"gatehouse/label"
	"gatehouse/space"
)

// model is what the chapter's table says, row by row, with all of the dump gone through for each.
func model(d []api.Object, root int) []api.Issue {
	var list []api.Issue
	for at, o := range d {
		owns := o.Kind == api.Thread || o.Kind == api.Gate
		for what, wrong := range [...]bool{
			api.BadOrder: o.Id < 1 || o.Id > 1<<61-1 || at > 0 && o.Id <= d[at-1].Id,
			api.BadKind:  o.Kind < 1 || o.Kind > 6 || o.Quota < 1 || o.Quota > 1<<40 || o.Id == root && o.Kind != 1,
			api.BadLabel: owns && !label.Plain(o.Label) || !owns && !label.Free(o.Label),
			api.BadClear: owns && !(label.Free(o.Clear) && label.Right(o.Label) && label.Leq(o.Label, o.Clear)),
			api.BadEntry: o.Kind == 1 && badEntry(d, o),
			api.BadLinks: o.Links != links(d, root, o.Id),
			api.BadUsed:  o.Kind == 1 && (uint64(o.Used) != used(d, o) || o.Used > o.Quota),
			api.BadReach: o.Id != root && !slices.Contains(reached(d, root), o.Id),
			api.BadTaint: o.Kind != 4 && slices.ContainsFunc(d, func(box api.Object) bool { return washed(box, o) }),
			api.BadBytes: o.Kind == 2 && (len(o.Bytes) > o.Quota || len(o.Bytes) > 4096),
			api.BadMaps:  o.Kind == 3 && !space.Right(o.Maps),
			api.BadWait:  o.Kind == 4 && badWait(d, o),
			api.BadLine:  o.Kind == 6 && (len(o.Heard) > 4096 || len(o.Out) > 4096) || o.Kind == 4 && badAlerts(o.Alerts),
			api.BadField: foreign(o),
		} {
			if wrong {
				list = append(list, api.Issue{Id: o.Id, What: what})
			}
		}
	}
	return list
}

// named answers the object that a number names; one of no number, if there is none.
func named(d []api.Object, id int) (api.Object, bool) {
	for _, o := range d {
		if o.Id == id {
			return o, true
		}
	}
	return api.Object{}, false
}

// hasEntry tells whether an object is a container with this entry.
func hasEntry(box api.Object, id int) bool {
	return box.Kind == api.Container && slices.Contains(box.List, id)
}

func badEntry(d []api.Object, o api.Object) bool {
	for i, id := range o.List {
		if _, ok := named(d, id); !ok || slices.Contains(o.List[:i], id) {
			return true
		}
	}
	return false
}

func links(d []api.Object, root, id int) int {
	n := 0
	for _, box := range d {
		if hasEntry(box, id) {
			n++
		}
	}
	if id == root {
		n++
	}
	return n
}

func used(d []api.Object, o api.Object) uint64 {
	sum := uint64(0)
	for _, id := range o.List {
		in, _ := named(d, id)
		sum += uint64(in.Quota)
	}
	return sum
}

// reached goes through all objects until no more come.
func reached(d []api.Object, root int) []int {
	ids := []int{root}
	for more := true; more; {
		more = false
		for i, o := range d {
			if _, before := named(d[:i], o.Id); before || !slices.Contains(ids, o.Id) || o.Kind != api.Container {
				continue
			}
			for _, id := range o.List {
				if !slices.Contains(ids, id) {
					ids, more = append(ids, id), true
				}
			}
		}
	}
	return ids
}

// washed asks category by category, those that neither label names first.
func washed(box, o api.Object) bool {
	if !hasEntry(box, o.Id) || !label.Right(box.Label) || !label.Right(o.Label) {
		return false
	}
	cats := []int{-1}
	for _, e := range slices.Concat(box.Label.Cats, o.Label.Cats) {
		cats = append(cats, e.Cat)
	}
	return slices.ContainsFunc(cats, func(cat int) bool {
		in, own := label.At(box.Label, cat), label.At(o.Label, cat)
		return own != api.Star && in > api.L1 && in > own
	})
}

func badWait(d []api.Object, o api.Object) bool {
	if o.Does != api.Waits {
		return o.Does != api.Runs && o.Does != api.Stops || o.Seg != 0 || o.Off != 0
	}
	seg, _ := named(d, o.Seg)
	return seg.Kind != api.Segment || o.Off < 0 || o.Off > 4095 || len(o.Alerts) > 0
}

func badAlerts(list []int) bool {
	return len(list) > 8 || slices.ContainsFunc(list, func(n int) bool { return n < 0 || n > 255 })
}

// foreign goes through what only some kinds have.
func foreign(o api.Object) bool {
	if o.Kind < 1 || o.Kind > 6 {
		return false
	}
	for _, x := range []struct {
		has   bool
		kinds []int
	}{
		{len(o.List) > 0 || o.Used != 0, []int{1}},
		{len(o.Bytes) > 0, []int{2}},
		{len(o.Maps) > 0, []int{3}},
		{o.Clear.Def != 0 || len(o.Clear.Cats) > 0 || o.Space.In != 0 || o.Space.Id != 0, []int{4, 5}},
		{o.State.Pc != 0 || o.State.R != [16]uint64{} || o.Does != 0 || o.Seg != 0 || o.Off != 0 || len(o.Alerts) > 0, []int{4}},
		{o.Entry != 0, []int{5}},
		{len(o.Heard) > 0 || len(o.Out) > 0, []int{6}},
	} {
		if x.has && !slices.Contains(x.kinds, o.Kind) {
			return true
		}
	}
	return false
}
