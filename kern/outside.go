package kern

import (
	"gatehouse/api"
	"gatehouse/pages"
)

// check tells whether there is such an object, and of this kind.
func (k *Kernel) check(id, kind int) api.Errno {
	if k == nil {
		return api.ErrNone
	}
	o, ok := k.table.Info(id)
	switch {
	case !ok:
		return api.ErrNone
	case o.Kind != kind:
		return api.ErrKind
	}
	return api.OK
}

// Put: what is put into a device.
func (k *Kernel) Put(device int, s string) api.Errno {
	if e := k.check(device, api.Device); e != api.OK {
		return e
	}
	d := k.devices[device]
	if len(d.heard)+len(s) > api.MaxLine {
		return api.ErrFull
	}
	d.heard = append(d.heard, s...)
	return api.OK
}

// SetState: a thread's state.
func (k *Kernel) SetState(thread int, s api.State) api.Errno {
	if e := k.check(thread, api.Thread); e != api.OK {
		return e
	}
	k.threads[thread].state = s
	return api.OK
}

// Fill: a segment's other bytes.
func (k *Kernel) Fill(segment int, s string) api.Errno {
	if e := k.check(segment, api.Segment); e != api.OK {
		return e
	}
	o, _ := k.table.Info(segment)
	if len(s) > o.Quota || len(s) > maxBytes {
		return api.ErrQuota
	}
	b, _ := pages.New(len(s))
	b.Write(0, s)
	k.segments[segment] = b
	return api.OK
}
