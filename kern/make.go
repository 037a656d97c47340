package kern

import (
	"gatehouse/api"
	"gatehouse/label"
	"gatehouse/pages"
	"gatehouse/passage"
)

// create makes a new object of this kind in a container, unless the row's own error is one, and lets it have what it begins with.
func (c *call) create(kind, in int, own api.Errno, begin func(id int)) (api.Told, api.Errno) {
	e := c.mayCreate(kind, in)
	switch {
	case e != api.OK:
		return api.Told{}, e
	case own != api.OK:
		return api.Told{}, own
	case c.A < 1 || c.A > api.MaxQuota:
		return api.Told{}, api.ErrArg
	case !isNumber(c.draw) || c.Drawn(c.draw):
		return api.Told{}, api.ErrId
	}
	if e := c.table.Make(in, c.draw, kind, c.A, c.L); e != api.OK {
		return api.Told{}, e
	}
	c.drawn[c.draw] = struct{}{}
	begin(c.draw)
	return api.Told{N: c.draw}, api.OK
}

// mayCreate tells whether labels allow the caller an object of this kind in a container.
func (c *call) mayCreate(kind, in int) api.Errno {
	box, e := c.container(in)
	if e != api.OK {
		return e
	}
	if kind != api.Thread && kind != api.Gate {
		if !label.Free(c.L) {
			return api.ErrArg
		}
		return c.mayLink(box, c.L)
	}
	if !label.Plain(c.L) || !label.Free(c.M) {
		return api.ErrArg
	}
	if e := c.mayLink(box, c.L); e != api.OK {
		return e
	}
	return passage.Lend(c.label, c.clearance, c.L, c.M)
}

// mayLink tells whether labels allow the caller what has this label in a container.
func (c *call) mayLink(box api.Info, l api.Label) api.Errno {
	return passage.Make(c.label, c.clearance, box.Label, l)
}

// nothing is what containers and address spaces begin with.
func nothing(int) {}

func (c *call) box() (api.Told, api.Errno) {
	return c.create(api.Container, c.P.In, api.OK, nothing)
}

func (c *call) cell() (api.Told, api.Errno) {
	b, own := pages.New(c.B)
	if own == api.OK && c.B > c.A {
		own = api.ErrQuota
	}
	return c.create(api.Segment, c.P.In, own, func(id int) { c.segments[id] = b })
}

func (c *call) clone() (api.Told, api.Errno) {
	o, e := c.target(c.P, api.Segment, c.sees)
	if e != api.OK {
		return api.Told{}, e
	}
	b, own := c.segments[o.Id], api.OK
	if b.Len() > c.A {
		own = api.ErrQuota
	}
	return c.create(api.Segment, c.Q.In, own, func(id int) { c.segments[id] = b.Copy() })
}

func (c *call) space() (api.Told, api.Errno) {
	return c.create(api.Space, c.P.In, api.OK, nothing)
}

func (c *call) flow() (api.Told, api.Errno) {
	return c.create(api.Thread, c.P.In, c.placeError(), func(id int) {
		t := &thread{clearance: copied(c.M), memory: c.Q}
		t.goTo(uint64(c.B), c.C)
		c.threads[id] = t
	})
}

func (c *call) door() (api.Told, api.Errno) {
	return c.create(api.Gate, c.P.In, c.placeError(), func(id int) {
		c.gates[id] = gate{clearance: copied(c.M), memory: c.Q, entry: uint64(c.B)}
	})
}

// placeError tells whether B can be where instructions are taken from.
func (c *call) placeError() api.Errno {
	if c.B < 0 {
		return api.ErrArg
	}
	return api.OK
}

// goTo lets a thread go on at a place, with a number handed to it.
func (t *thread) goTo(pc uint64, n int) {
	t.state.Pc = pc
	t.state.R[1] = uint64(n)
}
