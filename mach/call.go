package mach

import (
	"gatehouse/api"
	"gatehouse/label"
)

// Where a call stands in registers beside its numbers, and where its answer comes.
const (
	errReg   = 0 // the Op's, too
	toldReg  = 1
	outReg   = 2
	labelReg = 8
	clearReg = 9
	addrReg  = 10 // where the call's bytes stand, or its answer's are to stand
	manyReg  = 11 // how many they are at most
)

// maxMany is how many bytes a call may hand over, and take.
const maxMany = 4096

// What a label's bytes take: its head, in which the second byte says how many entries there are, and an entry.
const (
	headBytes  = 2
	entryBytes = 9
)

// asker is a thread at a sys: its memory, and its registers as they are.
type asker struct {
	memory
	r [api.Regs]uint64
}

// sys does the call that stands in the registers: its Op and its error.
func (a asker) sys(draw int) (int, api.Errno) {
	c, e := a.call()
	if e == api.OK {
		e = a.room(c.Op)
	}
	var told api.Told
	if e == api.OK {
		told, e = a.kernel.Do(a.thread, c, draw)
	}
	a.answer(c.Op, told, e)
	return c.Op, e
}

// number answers a register as a number with a sign.
func (a asker) number(i int) int { return int(a.r[i]) }

// call reads the call out of registers and memory; its Op is told beside an error, too.
func (a asker) call() (api.Call, api.Errno) {
	c := api.Call{
		Op: a.number(0),
		P:  api.Ref{In: a.number(1), Id: a.number(2)},
		Q:  api.Ref{In: a.number(3), Id: a.number(4)},
		A:  a.number(5),
		B:  a.number(6),
		C:  a.number(7),
	}
	var e api.Errno
	if c.L, e = a.label(a.r[labelReg]); e != api.OK {
		return c, e
	}
	if c.M, e = a.label(a.r[clearReg]); e != api.OK {
		return c, e
	}
	switch c.Op {
	case api.CallWrite, api.CallSay:
		c.S, e = a.said()
	case api.CallMap:
		c.Map = a.mapping(c)
	}
	return c, e
}

// label answers the label whose bytes stand at an address.
func (a asker) label(addr uint64) (api.Label, api.Errno) {
	if addr == 0 {
		return api.Label{Def: api.L1}, api.OK
	}
	head, e := a.Load(addr, headBytes, api.ToRead)
	if e != api.OK {
		return api.Label{}, e
	}
	s, e := a.Load(addr, headBytes+entryBytes*int(head[1]), api.ToRead)
	if e != api.OK {
		return api.Label{}, e
	}
	return label.Read(s)
}

// many answers how many bytes are handed over, or may be taken at most.
func (a asker) many() (int, api.Errno) {
	if a.r[manyReg] > maxMany {
		return 0, api.ErrArg
	}
	return a.number(manyReg), api.OK
}

// said answers the bytes that are handed over.
func (a asker) said() (string, api.Errno) {
	n, e := a.many()
	if e != api.OK {
		return "", e
	}
	return a.text(a.r[addrReg], n)
}

// mapping answers the mapping that a call of these numbers asks for.
func (a asker) mapping(c api.Call) api.Map {
	uses := a.r[manyReg]
	return api.Map{
		At: c.A, Pages: c.B, From: c.C,
		In: c.Q.In, Id: c.Q.Id,
		Write: uses&mayWrite != 0, Run: uses&mayRun != 0,
	}
}

// room tells whether what the answer may take of memory can be stored, ahead of a call that can't be undone.
func (a asker) room(op int) api.Errno {
	if !hasOut(op) {
		return api.OK
	}
	n, e := a.many()
	if e != api.OK {
		return e
	}
	return a.takes(a.r[addrReg], n)
}

// answer lets the thread have what became of its call.
func (a asker) answer(op int, told api.Told, e api.Errno) {
	o, ok := a.kernel.Object(a.thread)
	if !ok {
		return // it dropped itself
	}
	// The state is the kernel's, not the one that asked: calls may have set it.
	st := o.State
	st.R[errReg] = uint64(e)
	if e == api.OK && op != api.CallEnter {
		out := outOf(op, told)
		a.Store(a.r[addrReg], out[:min(uint64(len(out)), a.r[manyReg])])
		st.R[toldReg], st.R[outReg] = uint64(told.N), uint64(len(out))
	}
	a.kernel.SetState(a.thread, st)
}
