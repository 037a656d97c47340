package kern

import "gatehouse/api"

func (c *call) link() (api.Told, api.Errno) {
	o, e := c.target(c.P, anyKind, c.alters)
	if e != api.OK {
		return api.Told{}, e
	}
	box, e := c.container(c.Q.In)
	if e != api.OK {
		return api.Told{}, e
	}
	if e := c.mayLink(box, o.Label); e != api.OK {
		return api.Told{}, e
	}
	return api.Told{}, c.table.Link(box.Id, o.Id)
}

// entry tells whether P names something that the caller may use so, in a container that it alters.
func (c *call) entry(may func(api.Label) bool) api.Errno {
	if _, e := c.target(c.P, anyKind, may); e != api.OK {
		return e
	}
	box, _ := c.table.Info(c.P.In)
	if !c.alters(box.Label) {
		return api.ErrLabel
	}
	return api.OK
}

func (c *call) drop() (api.Told, api.Errno) {
	if e := c.entry(c.names); e != api.OK {
		return api.Told{}, e
	}
	gone, e := c.table.Drop(c.P.In, c.P.Id)
	for _, id := range gone {
		c.forget(id)
	}
	return api.Told{}, e
}

func (c *call) shift() (api.Told, api.Errno) {
	if e := c.entry(c.alters); e != api.OK {
		return api.Told{}, e
	}
	return api.Told{}, c.table.Shift(c.P.In, c.P.Id, c.A)
}

func (c *call) list() (api.Told, api.Errno) {
	box, e := c.container(c.P.In)
	if e != api.OK {
		return api.Told{}, e
	}
	list, e := c.table.List(box.Id)
	return api.Told{List: list}, e
}

func (c *call) look() (api.Told, api.Errno) {
	o, e := c.target(c.P, anyKind, c.sees)
	if e != api.OK {
		return api.Told{}, e
	}
	return api.Told{N: o.Kind, L: o.Label, List: []int{o.Quota}}, api.OK
}
