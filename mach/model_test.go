package mach_test

import (
	"encoding/binary"
	"slices"

	"gatehouse/api"
	"gatehouse/cpu"
	"gatehouse/kern"
	"gatehouse/label"
)

// tape is a thread's memory, told byte by byte by what the kernel's objects are.
type tape struct {
	k      *kern.Kernel
	thread int
}

// named answers what a Ref names for a thread.
func (m tape) named(r api.Ref) (api.Object, bool) {
	t, _ := m.k.Object(m.thread)
	box, ok := m.k.Object(r.In)
	if !ok || box.Kind != api.Container || !label.Sees(t.Label, box.Label) || !slices.Contains(box.List, r.Id) {
		return api.Object{}, false
	}
	return m.k.Object(r.Id)
}

// place answers where the byte of an address stands, if it may be used so: its segment, and its place in that.
func (m tape) place(addr uint64, need int) (int, int, bool) {
	t, _ := m.k.Object(m.thread)
	space, ok := m.named(t.Space)
	if !ok || space.Kind != api.Space || !label.Sees(t.Label, space.Label) {
		return 0, 0, false
	}
	may := label.Sees
	if need == api.ToWrite {
		may = label.Alters
	}
	for _, x := range space.Maps {
		from, n := uint64(64*x.At), uint64(64*x.Pages)
		if addr < from || addr-from >= n {
			continue
		}
		seg, ok := m.named(api.Ref{In: x.In, Id: x.Id})
		off := 64*x.From + int(addr-from)
		uses := need == api.ToRead || need == api.ToWrite && x.Write || need == api.ToRun && x.Run
		return seg.Id, off, ok && uses && seg.Kind == api.Segment && may(t.Label, seg.Label) && off < len(seg.Bytes)
	}
	return 0, 0, false
}

func (m tape) Load(addr uint64, n, need int) (string, api.Errno) {
	var row []byte
	for i := range uint64(n) {
		id, off, ok := m.place(addr+i, need)
		if !ok || addr+i < addr {
			return "", api.ErrFault
		}
		o, _ := m.k.Object(id)
		row = append(row, o.Bytes[off])
	}
	return string(row), api.OK
}

// canStore tells whether each of the bytes can be written.
func (m tape) canStore(addr uint64, n int) bool {
	for i := range uint64(n) {
		if _, _, ok := m.place(addr+i, api.ToWrite); !ok || addr+i < addr {
			return false
		}
	}
	return true
}

func (m tape) Store(addr uint64, s string) api.Errno {
	if !m.canStore(addr, len(s)) {
		return api.ErrFault
	}
	for i := range len(s) {
		id, off, _ := m.place(addr+uint64(i), api.ToWrite)
		o, _ := m.k.Object(id)
		m.k.Fill(id, o.Bytes[:off]+s[i:i+1]+o.Bytes[off+1:])
	}
	return api.OK
}

// model does what is picked on a kernel as the chapter tells it.
func model(k *kern.Kernel, p api.Pick) api.Event {
	switch p.Kind {
	case 0:
	case 1:
		k.Tick()
		return api.Event{}
	case 2:
		return api.Event{Thread: p.Thread, Err: k.Put(p.Thread, p.S)}
	default:
		return api.Event{Thread: p.Thread, What: 5, Err: api.ErrArg}
	}
	o, _ := k.Object(p.Thread)
	if o.Kind != api.Thread || o.Does != api.Runs {
		return api.Event{Thread: p.Thread, What: 5, Err: api.ErrDead}
	}
	st, m := o.State, tape{k, p.Thread}
	switch what := cpu.Step(&st, m); what {
	case 0:
		k.SetState(p.Thread, st)
		return api.Event{Thread: p.Thread}
	case 1:
		k.SetState(p.Thread, st)
		return api.Event{Thread: p.Thread, What: 1, Op: int(st.R[0]), Err: m.sys(st.R, p.Draw)}
	default:
		k.Do(p.Thread, api.Call{Op: api.CallHalt}, 0)
		return api.Event{Thread: p.Thread, What: what}
	}
}

// label answers the label at an address, byte by byte.
func (m tape) label(addr uint64) (api.Label, api.Errno) {
	if addr == 0 {
		return of("{1}"), api.OK
	}
	many, e := m.Load(addr+1, 1, api.ToRead)
	if e != api.OK || addr == last {
		return api.Label{}, api.ErrFault
	}
	s, e := m.Load(addr, 2+9*int(many[0]), api.ToRead)
	if e != api.OK {
		return api.Label{}, e
	}
	return label.Read(s)
}

// call answers the call in registers, its first error, and whether it has an out.
func (m tape) call(r [16]uint64) (c api.Call, out bool, first api.Errno) {
	n := func(i int) int { return int(int64(r[i])) }
	c = api.Call{Op: n(0), P: at(n(1), n(2)), Q: at(n(3), n(4)), A: n(5), B: n(6), C: n(7)}
	fails := func(e api.Errno) {
		if first == api.OK {
			first = e
		}
	}
	var e api.Errno
	c.L, e = m.label(r[8])
	fails(e)
	c.M, e = m.label(r[9])
	fails(e)
	switch c.Op {
	case 15, 27:
		if r[11] > 4096 {
			fails(api.ErrArg)
			return
		}
		c.S, e = m.Load(r[10], n(11), api.ToRead)
		fails(e)
	case 19:
		c.Map = api.Map{At: c.A, Pages: c.B, From: c.C, In: c.Q.In, Id: c.Q.Id, Write: r[11]%2 == 1, Run: r[11]/2%2 == 1}
	case 12, 13, 14, 21, 28, 31:
		out = true
		if r[11] > 4096 {
			fails(api.ErrArg)
		} else if !m.canStore(r[10], n(11)) {
			fails(api.ErrFault)
		}
	}
	return c, out, first
}

// sys does the call in registers, and answers its error.
func (m tape) sys(r [16]uint64, draw int) api.Errno {
	c, out, e := m.call(r)
	var told api.Told
	if e == api.OK {
		told, e = m.k.Do(m.thread, c, draw)
	}
	o, ok := m.k.Object(m.thread)
	if !ok {
		return e
	}
	st := o.State
	st.R[0] = uint64(e)
	if e == api.OK && c.Op != 30 {
		s := outBytes(c.Op, told)
		st.R[1], st.R[2] = uint64(told.N), uint64(len(s))
		if out {
			m.Store(r[10], s[:min(len(s), int(r[11]))])
		}
	}
	m.k.SetState(m.thread, st)
	return e
}

// outBytes answers an answer as bytes.
func outBytes(op int, told api.Told) string {
	var row []byte
	number := func(list ...int) {
		for _, n := range list {
			row = binary.LittleEndian.AppendUint64(row, uint64(n))
		}
	}
	switch op {
	case 14, 28:
		return told.S
	case 12:
		number(told.List...)
	case 13:
		row = []byte(label.Bytes(told.L))
		number(told.List...)
	case 31:
		row = []byte(label.Bytes(told.L) + label.Bytes(told.M))
	case 21:
		for _, x := range told.Maps {
			uses := map[[2]bool]int{{true, false}: 1, {false, true}: 2, {true, true}: 3}
			number(x.At, x.Pages, x.In, x.Id, x.From, uses[[2]bool{x.Write, x.Run}])
		}
	}
	return string(row)
}
