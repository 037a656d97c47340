package view

import (
	"cmp"
	"slices"

	"gatehouse/api"
)

// Visible: the visible objects' numbers.
func Visible(d []api.Object, root int, l api.Label) []int {
	var ids []int
	for _, at := range found(d, root, l) {
		ids = append(ids, d[at].Id)
	}
	return ids
}

// See: the visible objects.
func See(d []api.Object, root int, l api.Label) []api.Object {
	var seen []api.Object
	for _, at := range found(d, root, l) {
		o := copied(d[at])
		o.Links = 0
		seen = append(seen, o)
	}
	return seen
}

// found answers where in the dump the visible objects stand, by rising numbers.
func found(d []api.Object, root int, l api.Label) []int {
	unasked := places(d)
	var list []int
	for ask := []int{root}; len(ask) > 0; {
		id := ask[len(ask)-1]
		ask = ask[:len(ask)-1]
		at, ok := unasked[id]
		if !ok {
			continue
		}
		// Containers may hold each other: each object is asked once.
		delete(unasked, id)
		if !Low(l, d[at]) {
			continue
		}
		list = append(list, at)
		if d[at].Kind == api.Container {
			ask = append(ask, d[at].List...)
		}
	}
	slices.SortFunc(list, func(a, b int) int { return cmp.Compare(d[a].Id, d[b].Id) })
	return list
}

// places answers where in the dump each number stands first.
func places(d []api.Object) map[int]int {
	first := make(map[int]int, len(d))
	for at := range d {
		if _, ok := first[d[at].Id]; !ok {
			first[d[at].Id] = at
		}
	}
	return first
}

// copied answers an object of the same that shares no memory with it.
func copied(o api.Object) api.Object {
	o.Label.Cats = slices.Clone(o.Label.Cats)
	o.Clear.Cats = slices.Clone(o.Clear.Cats)
	o.List = slices.Clone(o.List)
	o.Maps = slices.Clone(o.Maps)
	o.Alerts = slices.Clone(o.Alerts)
	return o
}
