package hold

import (
	"slices"

	"gatehouse/api"
)

// row is things in the order in which they were added.
type row[T comparable] struct {
	items []T
}

func (r *row[T]) has(x T) bool { return slices.Contains(r.items, x) }

func (r *row[T]) add(x T) { r.items = append(r.items, x) }

func (r *row[T]) cut(x T) {
	r.items = slices.DeleteFunc(r.items, func(y T) bool { return y == x })
}

func (r *row[T]) list() []T { return slices.Clone(r.items) }

// object is what is told of it, and its entries: none, if it is no container.
type object struct {
	api.Info
	row[int]
}

// newObject answers an object that nothing links to yet.
func newObject(id, kind, quota int, l api.Label) *object {
	return &object{Info: api.Info{Id: id, Kind: kind, Quota: quota, Label: copied(l)}}
}

// room is how much a container has left to give.
func (o *object) room() int { return o.Quota - o.Used }

// link makes an object the container's last entry.
func (o *object) link(entry *object) {
	o.add(entry.Id)
	o.Used += entry.Quota
	entry.Links++
}

// told is what may be handed out of the object: in new memory.
func (o *object) told() api.Info {
	told := o.Info
	told.Label = copied(o.Label)
	return told
}

func copied(l api.Label) api.Label {
	return api.Label{Def: l.Def, Cats: slices.Clone(l.Cats)}
}

func isId(id int) bool { return id >= 1 && id <= api.MaxId }

// lowest is the lowest level of the labels of a kind: threads and gates alone may own.
func lowest(kind int) int {
	if kind == api.Thread || kind == api.Gate {
		return api.Star
	}
	return api.L0
}

// fits tells whether a label is right, with levels from this one to L3: from Star on it is plain, from L0 on free. It is asked here anew, as this layer calls no other one.
func fits(l api.Label, from int) bool {
	can := func(level int) bool { return level >= from && level <= api.L3 }
	if !can(l.Def) || len(l.Cats) > api.MaxCats {
		return false
	}
	last := 0
	for _, e := range l.Cats {
		if e.Cat <= last || !isId(e.Cat) || e.Level == l.Def || !can(e.Level) {
			return false
		}
		last = e.Cat
	}
	return true
}
