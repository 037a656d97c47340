package files

import (
	"gatehouse/api"
	"gatehouse/kern"
)

// dirQuota is the quota of the segment that holds a directory's bytes.
const dirQuota = 4096

// caller is a thread that asks a kernel, with the number that is drawn for what it makes.
type caller struct {
	kernel *kern.Kernel
	api.Whence
}

// ask does a call of the thread. Errors have the library's names here and in all that stands on it.
func (c caller) ask(q api.Call) (api.Told, api.Errno) {
	told, e := c.kernel.Do(c.Thread, q, c.Draw)
	return told, named(e)
}

// named answers the library's name of a kernel's error.
func named(e api.Errno) api.Errno {
	switch e {
	case api.OK, api.ErrDead:
		return e
	case api.ErrLabel, api.ErrNone:
		return api.ErrAcces
	case api.ErrQuota, api.ErrFull:
		return api.ErrNoSpc
	}
	return api.ErrInval
}

// newCell makes a segment without bytes in a container.
func (c caller) newCell(in int, l api.Label, quota int) api.Errno {
	_, e := c.ask(api.Call{Op: api.CallCell, P: api.Ref{In: in}, L: l, A: quota})
	return e
}

// newDir makes an empty directory in a container: a container of its own, and a segment in that.
func (c caller) newDir(in int, l api.Label, quota int) api.Errno {
	if _, e := c.ask(api.Call{Op: api.CallBox, P: api.Ref{In: in}, L: l, A: quota}); e != api.OK {
		return e
	}
	second := c
	second.Draw++
	if e := second.newCell(c.Draw, l, dirQuota); e != api.OK {
		c.drop(in, c.Draw)
		return e
	}
	return api.OK
}

func (c caller) drop(in, id int) api.Errno {
	_, e := c.ask(api.Call{Op: api.CallDrop, P: api.Ref{In: in, Id: id}})
	return e
}

func (c caller) size(r api.Ref) (int, api.Errno) {
	told, e := c.ask(api.Call{Op: api.CallSize, P: r})
	return told.N, e
}

func (c caller) read(r api.Ref, at, n int) (string, api.Errno) {
	told, e := c.ask(api.Call{Op: api.CallRead, P: r, A: at, B: n})
	return told.S, e
}

func (c caller) resize(r api.Ref, n int) api.Errno {
	_, e := c.ask(api.Call{Op: api.CallResize, P: r, A: n})
	return e
}

func (c caller) write(r api.Ref, at int, s string) api.Errno {
	_, e := c.ask(api.Call{Op: api.CallWrite, P: r, A: at, S: s})
	return e
}

func (c caller) look(r api.Ref) (api.Label, api.Errno) {
	told, e := c.ask(api.Call{Op: api.CallLook, P: r})
	return told.L, e
}
