package kern

import (
	"gatehouse/api"
	"gatehouse/pages"
)

// segment answers the segment that P names, and its bytes, if the caller may do that with it.
func (c *call) segment(may func(api.Label) bool) (api.Info, *pages.Bytes, api.Errno) {
	o, e := c.target(c.P, api.Segment, may)
	if e != api.OK {
		return api.Info{}, nil, e
	}
	return o, c.segments[o.Id], api.OK
}

func (c *call) read() (api.Told, api.Errno) {
	_, b, e := c.segment(c.sees)
	if e != api.OK {
		return api.Told{}, e
	}
	s, e := b.Read(c.A, c.B)
	return api.Told{S: s}, e
}

func (c *call) write() (api.Told, api.Errno) {
	_, b, e := c.segment(c.alters)
	if e != api.OK {
		return api.Told{}, e
	}
	return api.Told{}, b.Write(c.A, c.S)
}

func (c *call) size() (api.Told, api.Errno) {
	_, b, e := c.segment(c.sees)
	return api.Told{N: b.Len()}, e
}

func (c *call) resize() (api.Told, api.Errno) {
	o, b, e := c.segment(c.alters)
	switch {
	case e != api.OK:
		return api.Told{}, e
	case c.A < 0 || c.A > maxBytes:
		return api.Told{}, api.ErrArg
	case c.A > o.Quota:
		return api.Told{}, api.ErrQuota
	}
	return api.Told{}, b.Resize(c.A)
}

// word answers the eight bytes from A on of the segment that P names, and its number.
func (c *call) word(may func(api.Label) bool) (seg int, x uint64, e api.Errno) {
	o, b, e := c.segment(may)
	if e != api.OK {
		return 0, 0, e
	}
	x, e = b.Word(c.A)
	return o.Id, x, e
}

func (c *call) wait() (api.Told, api.Errno) {
	seg, x, e := c.word(c.sees)
	switch {
	case e != api.OK:
		return api.Told{}, e
	case x != uint64(c.B):
		return api.Told{N: 1}, api.OK
	}
	return api.Told{}, c.rooms.Wait(c.id, seg, c.A)
}

func (c *call) wake() (api.Told, api.Errno) {
	seg, _, e := c.word(c.alters)
	if e != api.OK {
		return api.Told{}, e
	}
	c.rooms.Wake(seg, c.A)
	return api.Told{}, api.OK
}
