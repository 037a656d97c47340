package fds

import (
	"gatehouse/api"
	"gatehouse/ask"
)

const (
	maxBytes = api.PageSize * api.MaxPages // of a file
	maxPlace = 1 << 40
)

// Read: bytes.
func (t *Table) Read(w api.Whence, fd, n int) (string, api.Errno) {
	x, e := t.descriptor(w, fd)
	switch {
	case e != api.OK:
		return "", e
	case !x.is(api.ForRead):
		return "", api.ErrBadF
	case n < 0:
		return "", api.ErrInval
	case !x.isPipe():
		return x.readFile(n)
	case n == 0:
		return "", api.OK
	}
	p, e := x.pipe()
	if e != api.OK {
		return "", e
	}
	return p.take(n)
}

// Write: bytes.
func (t *Table) Write(w api.Whence, fd int, s string) (int, api.Errno) {
	x, e := t.descriptor(w, fd)
	switch {
	case e != api.OK:
		return 0, e
	case !x.is(api.ForWrite):
		return 0, api.ErrBadF
	case !x.isPipe():
		return x.writeFile(s)
	case s == "":
		return 0, api.OK
	}
	p, e := x.pipe()
	if e != api.OK {
		return 0, e
	}
	return p.put(s)
}

// Seek: another place.
func (t *Table) Seek(w api.Whence, fd, at int) api.Errno {
	x, e := t.descriptor(w, fd)
	switch {
	case e != api.OK:
		return e
	case x.isPipe():
		return api.ErrSPipe
	case at < 0 || at > maxPlace:
		return api.ErrInval
	}
	x.move(at)
	return api.OK
}

// move lets the open be at another place, for all that name it.
func (x descriptor) move(at int) { x.SetNumbers(x.segment(), openPlace, at) }

// size answers how many bytes the file has. A file that isn't in its container any more has its own error here.
func (x descriptor) size() (int, api.Errno) {
	told, e := x.Kernel.Do(x.Thread, api.Call{Op: api.CallSize, P: x.what()}, 0)
	if e == api.ErrNone {
		return 0, api.ErrNoEnt
	}
	return told.N, ask.Named(e)
}

// readFile reads from the place on.
func (x descriptor) readFile(n int) (string, api.Errno) {
	size, e := x.size()
	if e != api.OK {
		return "", e
	}
	at := min(x.open[openPlace], size)
	s, e := x.Read(x.what(), at, min(n, size-at))
	if e != api.OK {
		return "", e
	}
	x.move(x.open[openPlace] + len(s))
	return s, api.OK
}

// writeFile writes from the place on, or from the end on, all or nothing.
func (x descriptor) writeFile(s string) (int, api.Errno) {
	size, e := x.size()
	if e != api.OK {
		return 0, e
	}
	at := x.open[openPlace]
	if x.is(api.AtEnd) {
		at = size
	}
	switch {
	case s == "": // whoever doesn't alter the file is refused even so
		e = x.Write(x.what(), 0, "")
	case at > maxBytes-len(s):
		e = api.ErrNoSpc
	default:
		e = x.lay(size, at, s)
	}
	if e != api.OK {
		return 0, e
	}
	x.move(at + len(s))
	return len(s), api.OK
}

// lay lets bytes stand at a place of the file, which is made longer, if need be.
func (x descriptor) lay(size, at int, s string) api.Errno {
	if e := x.Resize(x.what(), max(size, at+len(s))); e != api.OK {
		return e
	}
	return x.Write(x.what(), at, s)
}
