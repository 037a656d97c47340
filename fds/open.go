package fds

import "gatehouse/api"

// open is what an open's segment has: what is open, where one is there, and who names it.
type open [openNumbers]int

// The numbers of an open.
const (
	openKind = iota
	openIn
	openId
	openPlace
	openSlots // how many slots of tables name it
	openHow
	openNumbers // how many numbers it has
)

// The kinds of opens.
const (
	aFile = iota + 1
	readingEnd
	writingEnd
)

// what names to the kernel what is open.
func (o open) what() api.Ref { return api.Ref{In: o[openIn], Id: o[openId]} }

// is tells whether it was opened so.
func (o open) is(how int) bool { return o[openHow]&how != 0 }

// isPipe tells whether it is an end of a pipe.
func (o open) isPipe() bool { return o[openKind] != aFile }

// Open: a file's descriptor.
func (t *Table) Open(w api.Whence, path string, how int) (int, api.Errno) {
	d, e := t.begin(w)
	if e != api.OK {
		return 0, e
	}
	o, e := d.look(path, how)
	if e != api.OK {
		return 0, e
	}
	free, e := d.free(1)
	if e != api.OK {
		return 0, e
	}
	if e := d.make(0, o[:]); e != api.OK {
		return 0, e
	}
	d.set(free[0], w.Draw)
	return free[0], api.OK
}

// look answers what is open behind the opening of a file, if it may be opened so.
func (d desk) look(path string, how int) (open, api.Errno) {
	if !opens(how) {
		return open{}, api.ErrInval
	}
	s, e := d.files.Stat(d.Whence, path)
	switch {
	case e != api.OK:
		return open{}, e
	case s.Kind == api.ADir:
		return open{}, api.ErrIsDir
	}
	o := open{openKind: aFile, openIn: s.In, openId: s.Id, openSlots: 1, openHow: how}
	if o.is(api.ForWrite) && d.Write(o.what(), 0, "") != api.OK {
		return open{}, api.ErrAcces
	}
	return o, api.OK
}

// opens tells whether something can be opened so.
func opens(how int) bool {
	switch how {
	case api.ForRead, api.ForWrite, api.ForRead | api.ForWrite, api.ForWrite | api.AtEnd, api.ForRead | api.ForWrite | api.AtEnd:
		return true
	}
	return false
}

// Close: a descriptor less.
func (t *Table) Close(w api.Whence, fd int) api.Errno {
	x, e := t.descriptor(w, fd)
	if e != api.OK {
		return e
	}
	x.close()
	return api.OK
}

// close lets the slot name nothing any more.
func (x descriptor) close() {
	x.set(x.fd, 0)
	if x.open[openSlots] > 1 {
		x.name(-1)
		return
	}
	x.Drop(x.segment())
	if !x.isPipe() {
		return
	}
	if p, e := x.pipe(); e == api.OK {
		p.leave()
	}
}

// name lets the open be named by so many slots more.
func (x descriptor) name(more int) {
	x.SetNumbers(x.segment(), openSlots, x.open[openSlots]+more)
}

// Dup: another descriptor of the same.
func (t *Table) Dup(w api.Whence, fd int) (int, api.Errno) {
	x, e := t.descriptor(w, fd)
	if e != api.OK {
		return 0, e
	}
	free, e := x.free(1)
	if e != api.OK {
		return 0, e
	}
	x.set(free[0], x.slots[fd])
	x.name(1)
	return free[0], api.OK
}
