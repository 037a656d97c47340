package fds

import (
	"gatehouse/api"
	"gatehouse/ask"
)

// desk is where a call is done: by whom, in which family, and a table's slots as they were when it began.
type desk struct {
	ask.Caller
	family
	id    int
	slots [api.Slots]int
}

// begin asks whether the thread alters the table, and reads its slots. A number that is no table's is that of none.
func (t *Table) begin(w api.Whence) (desk, api.Errno) {
	if t == nil {
		return desk{}, api.ErrNone
	}
	d := desk{Caller: ask.Caller{Kernel: t.kernel, Whence: w}, family: t.family, id: t.id}
	e := d.Write(d.ref(d.id), 0, "")
	if e == api.OK {
		e = d.Numbers(d.ref(d.id), 0, d.slots[:])
	}
	switch e {
	case api.OK:
		return d, api.OK
	case api.ErrDead:
		return desk{}, e
	}
	return desk{}, api.ErrAcces
}

// make makes a segment of the family that has these numbers; its own number is that one of those drawn.
func (d desk) make(nth int, numbers []int) api.Errno {
	c, n := d.After(nth), ask.Word*len(numbers)
	if e := c.Cell(d.home, d.label, n, n); e != api.OK {
		return e
	}
	return c.SetNumbers(d.ref(c.Draw), 0, numbers...)
}

// set lets a slot name an open, or nothing (0).
func (d desk) set(fd, id int) { d.SetNumbers(d.ref(d.id), fd, id) }

// list answers the slots that are free, or those that aren't, rising.
func (d desk) list(free bool) []int {
	var list []int
	for fd, id := range d.slots {
		if (id == 0) == free {
			list = append(list, fd)
		}
	}
	return list
}

// free answers the slots that are free, rising, if there are as many as are needed.
func (d desk) free(need int) ([]int, api.Errno) {
	list := d.list(true)
	if len(list) < need {
		return nil, api.ErrMFile
	}
	return list, api.OK
}

// descriptor is a slot that isn't free, with the open that it names.
type descriptor struct {
	desk
	fd int
	open
}

// descriptor answers what a slot names.
func (d desk) descriptor(fd int) (descriptor, api.Errno) {
	if fd < 0 || fd >= api.Slots || d.slots[fd] == 0 {
		return descriptor{}, api.ErrBadF
	}
	x := descriptor{desk: d, fd: fd}
	if e := d.Numbers(x.segment(), 0, x.open[:]); e != api.OK {
		return descriptor{}, e
	}
	return x, api.OK
}

// descriptor answers what a slot of the table names.
func (t *Table) descriptor(w api.Whence, fd int) (descriptor, api.Errno) {
	d, e := t.begin(w)
	if e != api.OK {
		return descriptor{}, e
	}
	return d.descriptor(fd)
}

// segment names the open to the kernel.
func (x descriptor) segment() api.Ref { return x.ref(x.slots[x.fd]) }
