package kern

import (
	"slices"
	"strings"

	"gatehouse/api"
	"gatehouse/space"
)

func (c *call) mapIn() (api.Told, api.Errno) {
	return c.remap(func(row []api.Map) ([]api.Map, api.Errno) { return space.Put(row, c.Map) })
}

func (c *call) unmap() (api.Told, api.Errno) {
	return c.remap(func(row []api.Map) ([]api.Map, api.Errno) { return space.Cut(row, c.A) })
}

// remap changes the mappings of the address space that P names, unless the change is refused.
func (c *call) remap(change func([]api.Map) ([]api.Map, api.Errno)) (api.Told, api.Errno) {
	o, e := c.target(c.P, api.Space, c.alters)
	if e != api.OK {
		return api.Told{}, e
	}
	row, e := change(c.spaces[o.Id])
	if e != api.OK {
		return api.Told{}, e
	}
	c.spaces[o.Id] = row
	return api.Told{}, api.OK
}

func (c *call) mapped() (api.Told, api.Errno) {
	o, e := c.target(c.P, api.Space, c.sees)
	if e != api.OK {
		return api.Told{}, e
	}
	return api.Told{Maps: slices.Clone(c.spaces[o.Id])}, api.OK
}

// span answers where bytes of the caller's memory stand: in segments that have them, and that it may use so.
func (c *call) span(addr uint64, n, need int, may func(api.Label) bool) ([]api.Piece, api.Errno) {
	o, e := c.target(c.memory, api.Space, c.sees)
	if e != api.OK {
		return nil, api.ErrFault
	}
	list, e := space.Span(c.spaces[o.Id], addr, n, need)
	if e != api.OK {
		return nil, api.ErrFault
	}
	for _, p := range list {
		o, e := c.target(api.Ref{In: p.In, Id: p.Id}, api.Segment, may)
		if e != api.OK || p.Off+p.N > c.segments[o.Id].Len() {
			return nil, api.ErrFault
		}
	}
	return list, api.OK
}

// Load: bytes of a thread's memory.
func (k *Kernel) Load(thread int, addr uint64, n, need int) (string, api.Errno) {
	c, e := k.begin(thread, api.Call{}, 0)
	if e != api.OK {
		return "", e
	}
	list, e := c.span(addr, n, need, c.sees)
	if e != api.OK {
		return "", e
	}
	var s strings.Builder
	for _, p := range list {
		part, _ := k.segments[p.Id].Read(p.Off, p.N)
		s.WriteString(part)
	}
	return s.String(), api.OK
}

// Store: bytes into a thread's memory.
func (k *Kernel) Store(thread int, addr uint64, s string) api.Errno {
	c, e := k.begin(thread, api.Call{}, 0)
	if e != api.OK || s == "" {
		return e
	}
	list, e := c.span(addr, len(s), api.ToWrite, c.alters)
	if e != api.OK {
		return e
	}
	for _, p := range list {
		k.segments[p.Id].Write(p.Off, s[:p.N])
		s = s[p.N:]
	}
	return api.OK
}
