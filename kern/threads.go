package kern

import (
	"gatehouse/api"
	"gatehouse/label"
	"gatehouse/passage"
)

// become lets the caller have another label and another clearance, such as a thread may have.
func (c *call) become(l, clearance api.Label) {
	c.table.Relabel(c.id, l)
	c.clearance = copied(clearance)
}

func (c *call) own() (api.Told, api.Errno) {
	if c.Drawn(c.draw) {
		return api.Told{}, api.ErrId
	}
	l, clearance, e := passage.Own(c.label, c.clearance, c.draw)
	if e != api.OK {
		return api.Told{}, e
	}
	c.drawn[c.draw] = struct{}{}
	c.become(l, clearance)
	return api.Told{N: c.draw}, api.OK
}

func (c *call) rise() (api.Told, api.Errno) {
	if !label.Right(c.L) {
		return api.Told{}, api.ErrArg
	}
	if e := passage.Rise(c.label, c.clearance, c.L); e != api.OK {
		return api.Told{}, e
	}
	c.become(c.L, c.clearance)
	return api.Told{}, api.OK
}

func (c *call) clear() (api.Told, api.Errno) {
	if !label.Right(c.M) {
		return api.Told{}, api.ErrArg
	}
	if e := passage.Clear(c.label, c.clearance, c.M); e != api.OK {
		return api.Told{}, e
	}
	c.become(c.label, c.M)
	return api.Told{}, api.OK
}

func (c *call) enter() (api.Told, api.Errno) {
	o, e := c.target(c.P, api.Gate, c.names)
	if e != api.OK {
		return api.Told{}, e
	}
	if !label.Right(c.L) || !label.Right(c.M) {
		return api.Told{}, api.ErrArg
	}
	g := c.gates[o.Id]
	if e := passage.Enter(c.label, c.clearance, o.Label, g.clearance, c.L, c.M); e != api.OK {
		return api.Told{}, e
	}
	c.become(c.L, c.M)
	c.memory = g.memory
	c.goTo(g.entry, c.C)
	return api.Told{}, api.OK
}

func (c *call) post() (api.Told, api.Errno) {
	o, e := c.target(c.P, api.Thread, c.alters)
	if e != api.OK {
		return api.Told{}, e
	}
	_, e = c.rooms.Post(o.Id, c.A)
	return api.Told{}, e
}

func (c *call) take() (api.Told, api.Errno) {
	code, ok := c.rooms.Take(c.id)
	if !ok {
		return api.Told{}, api.ErrAgain
	}
	return api.Told{N: code}, api.OK
}

func (c *call) halt() (api.Told, api.Errno) {
	c.stopped = true
	return api.Told{}, api.OK
}

func (c *call) now() (api.Told, api.Errno) {
	return api.Told{N: c.ticks}, api.OK
}

func (c *call) self() (api.Told, api.Errno) {
	return api.Told{N: c.id, L: c.label, M: copied(c.clearance)}, api.OK
}

func (c *call) aim() (api.Told, api.Errno) {
	if e := c.placeError(); e != api.OK {
		return api.Told{}, e
	}
	c.memory = c.Q
	c.state.Pc = uint64(c.B)
	return api.Told{}, api.OK
}
