package kern

import (
	"gatehouse/api"
	"gatehouse/label"
)

// who is a thread that asks: what it has, its number, its label.
type who struct {
	*thread
	id    int
	label api.Label
}

// sees: may it look at what has this label?
func (w who) sees(o api.Label) bool { return label.Sees(w.label, o) }

// alters: may it change what has this label?
func (w who) alters(o api.Label) bool { return label.Alters(w.label, o) }

// names: what it names is enough, whatever the label.
func (w who) names(api.Label) bool { return true }

// call is a call under way: the kernel, what was asked, who asks, and the number that was drawn for it.
type call struct {
	*Kernel
	api.Call
	who
	draw int
}

// begin answers the call of a thread, if that runs.
func (k *Kernel) begin(thread int, asked api.Call, draw int) (*call, api.Errno) {
	if k == nil {
		return nil, api.ErrNone
	}
	t := k.threads[thread]
	if t == nil || k.does(thread) != api.Runs {
		return nil, api.ErrDead
	}
	info, _ := k.table.Info(thread)
	w := who{thread: t, id: thread, label: info.Label}
	return &call{Kernel: k, Call: asked, who: w, draw: draw}, api.OK
}

// Do: a thread's call.
func (k *Kernel) Do(thread int, c api.Call, draw int) (api.Told, api.Errno) {
	asked, e := k.begin(thread, c, draw)
	if e != api.OK {
		return api.Told{}, e
	}
	do := rowOf(c.Op)
	if do == nil {
		return api.Told{}, api.ErrArg
	}
	return do(asked)
}

// rowOf answers what a call of this Op does: nil, if there is none.
func rowOf(op int) func(*call) (api.Told, api.Errno) {
	rows := [...]func(*call) (api.Told, api.Errno){
		api.CallOwn:    (*call).own,
		api.CallRise:   (*call).rise,
		api.CallClear:  (*call).clear,
		api.CallBox:    (*call).box,
		api.CallCell:   (*call).cell,
		api.CallSpace:  (*call).space,
		api.CallFlow:   (*call).flow,
		api.CallDoor:   (*call).door,
		api.CallLink:   (*call).link,
		api.CallDrop:   (*call).drop,
		api.CallShift:  (*call).shift,
		api.CallList:   (*call).list,
		api.CallLook:   (*call).look,
		api.CallRead:   (*call).read,
		api.CallWrite:  (*call).write,
		api.CallSize:   (*call).size,
		api.CallResize: (*call).resize,
		api.CallClone:  (*call).clone,
		api.CallMap:    (*call).mapIn,
		api.CallUnmap:  (*call).unmap,
		api.CallMapped: (*call).mapped,
		api.CallWait:   (*call).wait,
		api.CallWake:   (*call).wake,
		api.CallPost:   (*call).post,
		api.CallTake:   (*call).take,
		api.CallHalt:   (*call).halt,
		api.CallSay:    (*call).say,
		api.CallHear:   (*call).hear,
		api.CallNow:    (*call).now,
		api.CallEnter:  (*call).enter,
		api.CallSelf:   (*call).self,
		api.CallAim:    (*call).aim,
	}
	if op < 0 || op >= len(rows) {
		return nil
	}
	return rows[op]
}

// container answers a container that the caller sees.
func (c *call) container(id int) (api.Info, api.Errno) {
	box, ok := c.table.Info(id)
	if !ok || box.Kind != api.Container || !c.sees(box.Label) {
		return api.Info{}, api.ErrNone
	}
	return box, api.OK
}

// anyKind stands for a kind where none is asked for.
const anyKind = 0

// target answers what a Ref names for the caller, if it is of this kind, and the caller may do that with what has its label.
func (c *call) target(r api.Ref, kind int, may func(api.Label) bool) (api.Info, api.Errno) {
	_, e := c.container(r.In)
	if e != api.OK || !c.table.Has(r.In, r.Id) {
		return api.Info{}, api.ErrNone
	}
	o, _ := c.table.Info(r.Id)
	switch {
	case kind != anyKind && o.Kind != kind:
		return api.Info{}, api.ErrKind
	case !may(o.Label):
		return api.Info{}, api.ErrLabel
	}
	return o, api.OK
}
