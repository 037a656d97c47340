// Package ask is what the library's layers have in common: a thread's calls to the kernel, whose errors have the library's names.
package ask

import (
	"gatehouse/api"
	"gatehouse/kern"
)

// Caller is a thread that asks a kernel, with the number that is drawn for what it makes.
type Caller struct {
	Kernel *kern.Kernel
	api.Whence
}

// After is the same thread, with the number that is so many behind the one drawn.
func (c Caller) After(n int) Caller {
	c.Draw += n
	return c
}

// Do does a call of the thread. Errors have the library's names here and in all that stands on it.
func (c Caller) Do(q api.Call) (api.Told, api.Errno) {
	told, e := c.Kernel.Do(c.Thread, q, c.Draw)
	return told, Named(e)
}

// Named answers the library's name of a kernel's error.
func Named(e api.Errno) api.Errno {
	switch e {
	case api.OK, api.ErrDead:
		return e
	case api.ErrLabel, api.ErrNone:
		return api.ErrAcces
	case api.ErrQuota, api.ErrFull:
		return api.ErrNoSpc
	}
	return api.ErrInval
}

// Box makes a container in another one.
func (c Caller) Box(in int, l api.Label, quota int) api.Errno {
	_, e := c.Do(api.Call{Op: api.CallBox, P: api.Ref{In: in}, L: l, A: quota})
	return e
}

// Cell makes a segment of n bytes in a container.
func (c Caller) Cell(in int, l api.Label, quota, n int) api.Errno {
	_, e := c.Do(api.Call{Op: api.CallCell, P: api.Ref{In: in}, L: l, A: quota, B: n})
	return e
}

// Drop takes an entry out of its container.
func (c Caller) Drop(r api.Ref) api.Errno {
	_, e := c.Do(api.Call{Op: api.CallDrop, P: r})
	return e
}

// Look answers an object's label.
func (c Caller) Look(r api.Ref) (api.Label, api.Errno) {
	told, e := c.Do(api.Call{Op: api.CallLook, P: r})
	return told.L, e
}

// Size answers how many bytes a segment has.
func (c Caller) Size(r api.Ref) (int, api.Errno) {
	told, e := c.Do(api.Call{Op: api.CallSize, P: r})
	return told.N, e
}

// Read answers bytes of a segment.
func (c Caller) Read(r api.Ref, at, n int) (string, api.Errno) {
	told, e := c.Do(api.Call{Op: api.CallRead, P: r, A: at, B: n})
	return told.S, e
}

// Resize says how many bytes a segment has.
func (c Caller) Resize(r api.Ref, n int) api.Errno {
	_, e := c.Do(api.Call{Op: api.CallResize, P: r, A: n})
	return e
}

// Write changes bytes of a segment. Of no bytes at 0 it is the question whether the thread alters the segment.
func (c Caller) Write(r api.Ref, at int, s string) api.Errno {
	_, e := c.Do(api.Call{Op: api.CallWrite, P: r, A: at, S: s})
	return e
}

// Wake lets all run again that wait at a place of a segment.
func (c Caller) Wake(r api.Ref, at int) api.Errno {
	_, e := c.Do(api.Call{Op: api.CallWake, P: r, A: at})
	return e
}
