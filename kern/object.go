package kern

import (
	"slices"

	"gatehouse/api"
)

// thread is what the kernel knows of a thread beside the table. Whether it waits, the rooms know.
type thread struct {
	clearance api.Label
	memory    api.Ref // its address space
	state     api.State
	stopped   bool
}

// gate is what the kernel knows of a gate beside the table.
type gate struct {
	clearance api.Label
	memory    api.Ref
	entry     uint64
}

// device is what was put in and not yet heard, and what was said.
type device struct {
	heard, said []byte
}

func (d *device) copied() *device {
	return &device{heard: slices.Clone(d.heard), said: slices.Clone(d.said)}
}

// copied answers the label in new memory: what is handed in isn't kept, what is kept isn't handed out.
func copied(l api.Label) api.Label {
	return api.Label{Def: l.Def, Cats: slices.Clone(l.Cats)}
}

// does tells what a thread does.
func (k *Kernel) does(id int) int {
	if k.threads[id].stopped {
		return api.Stops
	}
	if _, _, waits := k.rooms.Where(id); waits {
		return api.Waits
	}
	return api.Runs
}

// forget takes out all that an object had that is gone.
func (k *Kernel) forget(id int) {
	k.rooms.Close(id)
	k.rooms.Forget(id)
	delete(k.segments, id)
	delete(k.spaces, id)
	delete(k.threads, id)
	delete(k.gates, id)
	delete(k.devices, id)
}

// Object: all of an object.
func (k *Kernel) Object(id int) (api.Object, bool) {
	if k == nil {
		return api.Object{}, false
	}
	info, ok := k.table.Info(id)
	if !ok {
		return api.Object{}, false
	}
	o := api.Object{Info: info}
	switch info.Kind {
	case api.Container:
		o.List, _ = k.table.List(id)
	case api.Segment:
		o.Bytes, _ = k.segments[id].Read(0, k.segments[id].Len())
	case api.Space:
		o.Maps = slices.Clone(k.spaces[id])
	case api.Thread:
		k.tellThread(&o)
	case api.Gate:
		g := k.gates[id]
		o.Clear, o.Space, o.Entry = copied(g.clearance), g.memory, g.entry
	case api.Device:
		d := k.devices[id]
		o.Heard, o.Out = string(d.heard), string(d.said)
	}
	return o, true
}

// tellThread tells of a thread what the table doesn't know.
func (k *Kernel) tellThread(o *api.Object) {
	t := k.threads[o.Id]
	o.Clear, o.Space, o.State = copied(t.clearance), t.memory, t.state
	o.Does = k.does(o.Id)
	o.Seg, o.Off, _ = k.rooms.Where(o.Id)
	o.Alerts = k.rooms.Alerts(o.Id)
}
