package kern

import (
	"slices"

	"gatehouse/api"
)

// line answers the device that P names, if the caller alters it.
func (c *call) line() (*device, api.Errno) {
	o, e := c.target(c.P, api.Device, c.alters)
	return c.devices[o.Id], e
}

func (c *call) say() (api.Told, api.Errno) {
	d, e := c.line()
	switch {
	case e != api.OK:
		return api.Told{}, e
	case len(d.said)+len(c.S) > api.MaxLine:
		return api.Told{}, api.ErrFull
	}
	d.said = append(d.said, c.S...)
	return api.Told{}, api.OK
}

func (c *call) hear() (api.Told, api.Errno) {
	d, e := c.line()
	switch {
	case e != api.OK:
		return api.Told{}, e
	case c.A < 0:
		return api.Told{}, api.ErrArg
	}
	n := min(c.A, len(d.heard))
	s := string(d.heard[:n])
	d.heard = slices.Delete(d.heard, 0, n)
	return api.Told{S: s}, api.OK
}
