package hold

import (
	"maps"
	"slices"

	"gatehouse/api"
)

// find answers the object with this number, nil if there is none.
func (t *Table) find(id int) *object {
	if t == nil {
		return nil
	}
	return t.objects[id]
}

// container answers the container with this number.
func (t *Table) container(in int) (*object, api.Errno) {
	box := t.find(in)
	switch {
	case box == nil:
		return nil, api.ErrNone
	case box.Kind != api.Container:
		return nil, api.ErrKind
	}
	return box, api.OK
}

// entry answers a container and the object that is this entry of it.
func (t *Table) entry(in, id int) (box, o *object, e api.Errno) {
	box, e = t.container(in)
	if e != api.OK {
		return nil, nil, e
	}
	if !box.has(id) {
		return nil, nil, api.ErrNone
	}
	return box, t.find(id), api.OK
}

// Info: an object.
func (t *Table) Info(id int) (api.Info, bool) {
	o := t.find(id)
	if o == nil {
		return api.Info{}, false
	}
	return o.told(), true
}

// List: a container's entries.
func (t *Table) List(in int) ([]int, api.Errno) {
	box, e := t.container(in)
	if e != api.OK {
		return nil, e
	}
	return box.list(), api.OK
}

// Has: is it an entry?
func (t *Table) Has(in, id int) bool {
	_, _, e := t.entry(in, id)
	return e == api.OK
}

// Ids: all numbers.
func (t *Table) Ids() []int {
	if t == nil {
		return nil
	}
	return slices.Sorted(maps.Keys(t.objects))
}

// Len: how many objects.
func (t *Table) Len() int {
	if t == nil {
		return 0
	}
	return len(t.objects)
}
