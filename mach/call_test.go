package mach_test

import (
	"testing"

	"gatehouse/api"
	"gatehouse/kern"
	"gatehouse/label"
	"gatehouse/mach"
)

// did is a call that goes well in a furnished kernel by the thread 3, as the kernel's Do is asked, and R[8] to R[11] by which L, M, S and Map are told.
type did struct {
	c                api.Call
	l, m, addr, many uint64
}

// calls are calls without an out, but for Enter.
func calls() []did {
	return []did{
		{c: api.Call{Op: api.CallOwn}},
		{c: api.Call{Op: api.CallRise, L: of("{2 20:3}")}, l: labelAt(isCleared)},
		{c: api.Call{Op: api.CallClear, M: of("{2 20:3}")}, m: labelAt(isCleared)},
		{c: api.Call{Op: api.CallBox, P: at(1, 77), L: of("{1 20:3}"), A: 9}, l: labelAt(isSecret)},
		{c: api.Call{Op: api.CallCell, P: at(5, 0), A: 90, B: 80}},
		{c: api.Call{Op: api.CallSpace, P: at(1, 0), A: 1}},
		{c: api.Call{Op: api.CallFlow, P: at(1, 0), Q: at(7, 8), L: of("{1 20:3}"), M: of("{2 20:3}"), A: 1, B: 64, C: -5}, l: labelAt(isSecret), m: labelAt(isCleared)},
		{c: api.Call{Op: api.CallDoor, P: at(1, 0), Q: at(-7, 8), L: of("{1 20:*}"), M: of("{3}"), A: 1, B: highest}, l: labelAt(isOwner), m: labelAt(isThree)},
		{c: api.Call{Op: api.CallLink, P: at(1, 14), Q: at(5, 0)}},
		{c: api.Call{Op: api.CallDrop, P: at(1, 6)}},
		{c: api.Call{Op: api.CallShift, P: at(1, 5), A: -100}},
		{c: api.Call{Op: api.CallWrite, P: at(5, 17), A: 2}, addr: nowhere},
		{c: api.Call{Op: api.CallWrite, P: at(5, 17), A: 2, S: "234567"}, addr: short + 2, many: 6},
		{c: api.Call{Op: api.CallSize, P: at(1, 13)}},
		{c: api.Call{Op: api.CallResize, P: at(1, 14), A: 130}},
		{c: api.Call{Op: api.CallClone, P: at(1, 14), Q: at(5, 0), A: 128}},
		{c: api.Call{Op: api.CallMap, P: at(1, 15), Q: at(5, 17), A: 700, B: 2, C: 3, Map: api.Map{At: 700, Pages: 2, From: 3, In: 5, Id: 17, Run: true}}, many: 2},
		{c: api.Call{Op: api.CallUnmap, P: at(1, 15), A: 64}},
		{c: api.Call{Op: api.CallWait, P: at(1, 11), A: 8}},
		{c: api.Call{Op: api.CallWait, P: at(1, 11), A: 8, B: -1}},
		{c: api.Call{Op: api.CallWake, P: at(1, 11), A: 8}},
		{c: api.Call{Op: api.CallPost, P: at(1, 30), A: 200}},
		{c: api.Call{Op: api.CallTake}},
		{c: api.Call{Op: api.CallHalt}},
		{c: api.Call{Op: api.CallSay, P: at(1, 2), S: "more0123"}, addr: short - 4, many: 8},
		{c: api.Call{Op: api.CallNow}},
		{c: api.Call{Op: api.CallAim, Q: at(1, 15), B: 64}},
	}
}

// TestCallsDo: a call by sys does what the kernel's Do does.
func TestCallsDo(t *testing.T) {
	for _, x := range calls() {
		k := furnished(t)
		k.Tick()
		if x.c.Op == api.CallTake {
			k.Do(32, api.Call{Op: api.CallPost, P: at(1, 3), A: 77}, 0)
		}
		st := regs(x.c, x.l, x.m, x.addr, x.many)
		if x.l == 0 {
			x.c.L = of("{1}")
		}
		if x.m == 0 {
			x.c.M = of("{1}")
		}
		ought := k.Copy()
		told, e := ought.Do(3, x.c, 100)
		if e != api.OK {
			t.Fatalf("%+v: %d", x.c, e)
		}
		after := st
		after.Pc, after.R[0], after.R[1], after.R[2] = 4, 0, uint64(told.N), 0
		if x.c.Op == api.CallAim {
			after.Pc = 64
		}
		ought.SetState(3, after)
		if e, got := sys(t, k, 3, st, 100); e != api.OK || got != after {
			t.Errorf("%+v: error %d, %+v, not %+v", x.c, e, got, after)
		}
		if wrong := unlike(k, ought); wrong != "" {
			t.Errorf("%+v: %s", x.c, wrong)
		}
	}
}

// TestEnter: behind a gate R[1] is what was handed over, R[2] as it was, and Pc the gate's entry.
func TestEnter(t *testing.T) {
	k := furnished(t)
	st := regs(api.Call{Op: api.CallEnter, P: at(1, 16), C: -9}, labelAt(isOwner), labelAt(isTwo), nowhere, last)
	want := st
	want.Pc, want.R[0], want.R[1] = 400, 0, 1<<64-9
	if e, got := sys(t, k, 30, st, 0); e != api.OK || got != want {
		t.Errorf("error %d, %+v, not %+v", e, got, want)
	}
	if o, _ := k.Object(30); !sameLabel(o.Label, of("{1 20:*}")) || !sameLabel(o.Clear, of("{2}")) {
		t.Error(o.Label, o.Clear)
	}
	refuses(t, k, 31, regs(api.Call{Op: api.CallEnter, P: at(1, 16), C: 9}, labelAt(isThree), labelAt(isTwo), 0, 0), 0, api.ErrLabel)
	refuses(t, k, 31, regs(api.Call{Op: api.CallEnter, P: at(1, 15), C: 9}, 0, 0, 0, 0), 0, api.ErrKind)
}

// TestNobodyLeft: of a thread that drops itself, or what it lies in, nothing is left to be told anything.
func TestNobodyLeft(t *testing.T) {
	k := furnished(t)
	for _, x := range []struct {
		thread int
		what   api.Ref
	}{{30, at(1, 30)}, {32, at(1, 5)}} {
		if e, _ := sys(t, k, x.thread, regs(api.Call{Op: api.CallDrop, P: x.what}, 0, 0, 0, 0), 0); e != api.OK {
			t.Error(x.thread, e)
		}
		if _, ok := k.Object(x.thread); ok {
			t.Error(x.thread, "is there")
		}
	}
	came(t, mach.New(k).Run(runs(30, 1)), api.Event{Thread: 30, What: api.Idle, Err: api.ErrDead})
}

// TestWaits: who waits by a sys has its answer already, and goes on behind it when it is woken.
func TestWaits(t *testing.T) {
	k := furnished(t)
	does(t, k, 30, regs(api.Call{Op: api.CallWait, P: at(1, 11), A: 8}, 0, 0, 0, 0), 0, 0, 0)
	m := mach.New(k)
	came(t, m.Run(runs(30, 1)), api.Event{Thread: 30, What: api.Idle, Err: api.ErrDead})
	does(t, k, 3, regs(api.Call{Op: api.CallWake, P: at(1, 11), A: 8}, 0, 0, 0, 0), 0, 0, 0)
	came(t, m.Run(runs(30, 1)), event(30, 0, api.ErrArg))
	if o, _ := k.Object(30); o.State.Pc != 8 {
		t.Error(o.State)
	}
	does(t, k, 30, regs(api.Call{Op: api.CallHalt}, 0, 0, 0, 0), 0, 0, 0)
	came(t, m.Run(runs(30, 1)), api.Event{Thread: 30, What: api.Idle, Err: api.ErrDead})
}

// TestNoCall: an Op that is none, whatever it would be without its upper bits.
func TestNoCall(t *testing.T) {
	k := furnished(t)
	for _, op := range []int{0, 33, -1, 255, least, highest, 1<<32 + api.CallNow, 256 + api.CallHalt} {
		refuses(t, k, 30, regs(api.Call{Op: op, P: at(1, 2)}, 0, 0, data, 1), 50, api.ErrArg)
		refuses(t, k, 30, regs(api.Call{Op: op}, nowhere, 0, 0, last), 50, api.ErrFault)
		refuses(t, k, 30, regs(api.Call{Op: op}, 0, 0, nowhere, last), 50, api.ErrArg)
	}
}

// TestRefused: the kernel's errors come into R[0], and nothing else changes; numbers have signs.
func TestRefused(t *testing.T) {
	k := furnished(t)
	for _, x := range []struct {
		c    api.Call
		want api.Errno
	}{
		{api.Call{Op: api.CallOwn}, api.ErrId},
		{api.Call{Op: api.CallSize, P: at(1, -13)}, api.ErrNone}, {api.Call{Op: api.CallSize, P: at(1, 16)}, api.ErrKind}, {api.Call{Op: api.CallSize, P: at(1, 12)}, api.ErrLabel},
		{api.Call{Op: api.CallBox, P: at(1, 0), A: -1}, api.ErrArg}, {api.Call{Op: api.CallCell, P: at(1, 0), A: 1, B: 2}, api.ErrQuota}, {api.Call{Op: api.CallBox, P: at(1, 0), A: 1}, api.ErrId},
		{api.Call{Op: api.CallRead, P: at(1, 13), A: 99, B: 2}, api.ErrFault}, {api.Call{Op: api.CallTake}, api.ErrAgain}, {api.Call{Op: api.CallMap, P: at(1, 15), B: 1, Q: at(1, 11)}, api.ErrForm},
		{api.Call{Op: api.CallAim, B: -1}, api.ErrArg}, {api.Call{Op: api.CallFlow, P: at(1, 0), A: 1, B: least}, api.ErrArg},
	} {
		refuses(t, k, 30, regs(x.c, 0, 0, data, 8), 16, x.want)
	}
}

// TestLabels: which bytes are labels, and which are none, of each call.
func TestLabels(t *testing.T) {
	k := furnished(t)
	for i := range written() {
		l := regs(api.Call{Op: api.CallNow}, labelAt(i), 0, 0, 0)
		m := regs(api.Call{Op: api.CallNow}, 0, labelAt(i), 0, 0)
		if i >= isNone {
			refuses(t, k, 30, l, 0, api.ErrForm)
			refuses(t, k, 30, m, 0, api.ErrForm)
			continue
		}
		does(t, k, 30, l, 0, 0, 0)
		does(t, k, 30, m, 0, 0, 0)
	}
}

// putLabel lets a label's bytes stand at an address, whoever may write there.
func putLabel(t *testing.T, k *kern.Kernel, id, off int, s string) {
	t.Helper()
	o, _ := k.Object(id)
	if e := k.Fill(id, o.Bytes[:off]+s+o.Bytes[min(len(o.Bytes), off+len(s)):]); e != api.OK {
		t.Fatal("Fill", id, e)
	}
}

// TestLabelPlaces: a label may stand in several segments; one of whose bytes any can't be read is a fault, as far as its second byte says that it goes.
func TestLabelPlaces(t *testing.T) {
	k := furnished(t)
	secretLabel := label.Bytes(of("{1 20:3}"))
	putLabel(t, k, 11, 4091, secretLabel[:5])
	putLabel(t, k, 14, 0, secretLabel[5:])
	does(t, k, 3, regs(api.Call{Op: api.CallBox, P: at(1, 0), A: 1}, datas-4, 0, 0, 0), 100, 100, 0)
	if o, _ := k.Object(100); !sameLabel(o.Label, of("{1 20:3}")) {
		t.Error(o.Label)
	}
	putLabel(t, k, 13, 98, "\x02\x00")
	does(t, k, 30, regs(api.Call{Op: api.CallNow}, shorts-2, 0, 0, 0), 0, 0, 0)
	does(t, k, 30, regs(api.Call{Op: api.CallNow}, labels, 0, 0, 0), 0, 0, 0) // noughts are {*}
	putLabel(t, k, 12, 0, secretLabel)
	does(t, k, 31, regs(api.Call{Op: api.CallNow}, secret, secret, 0, 0), 0, 0, 0)
	putLabel(t, k, 11, 4095-10, secretLabel)
	does(t, k, 30, regs(api.Call{Op: api.CallNow}, farEnd-10, 0, 0, 0), 0, 0, 0)
	for _, addr := range []uint64{nowhere, secret, shut, shorts, shorts - 1, ends - 2, ends - 1, ends, farEnd, beyond, last, last - 1, last - 10, 1 << 63} {
		for _, op := range []int{api.CallNow, api.CallWrite, api.CallRead, api.CallRise} {
			refuses(t, k, 30, regs(api.Call{Op: op, P: at(1, 11), A: -1}, addr, 0, 0, 0), 0, api.ErrFault)
			refuses(t, k, 30, regs(api.Call{Op: op, P: at(1, 11), A: -1}, 0, addr, 0, 0), 0, api.ErrFault)
		}
	}
	// Far more entries than a label has: they are bytes that are none, or, if they aren't all there, a fault.
	putLabel(t, k, 18, 4096-2297, "\x02\xff")
	refuses(t, k, 30, regs(api.Call{Op: api.CallNow}, ends-2297, 0, 0, 0), 0, api.ErrForm)
	putLabel(t, k, 18, 4096-2296, "\x02\xff")
	refuses(t, k, 30, regs(api.Call{Op: api.CallNow}, ends-2296, 0, 0, 0), 0, api.ErrFault)
	putLabel(t, k, 18, 4096-146, label.Bytes(sixteen()))
	does(t, k, 30, regs(api.Call{Op: api.CallCell, P: at(1, 0), A: 1}, ends-146, 0, 0, 0), 101, 101, 0)
	if o, _ := k.Object(101); !sameLabel(o.Label, sixteen()) {
		t.Error(o.Label)
	}
}

// sixteen is a label {1} of as many categories as there may be.
func sixteen() api.Label {
	l := api.Label{Def: api.L1}
	for i := range 16 {
		l.Cats = append(l.Cats, api.Entry{Cat: 500 + i, Level: api.L2})
	}
	return l
}

// TestSays: S stands in memory, as many bytes as R[11] says.
func TestSays(t *testing.T) {
	k := furnished(t)
	do := func(id int, addr, many uint64) api.State {
		return regs(api.Call{Op: api.CallWrite, P: at(1, id)}, 0, 0, addr, many)
	}
	does(t, k, 30, do(11, labels, 4096), 0, 0, 0)
	o, _ := k.Object(18)
	bytesOf(t, k, 11, 0, o.Bytes)
	does(t, k, 30, do(11, more+126, 4), 0, 0, 0)
	bytesOf(t, k, 11, 0, "re01\x00")
	for _, addr := range []uint64{0, nowhere, secret, last} { // no bytes stand anywhere
		does(t, k, 30, do(11, addr, 0), 0, 0, 0)
		does(t, k, 30, regs(api.Call{Op: api.CallSay, P: at(1, 2)}, 0, 0, addr, 0), 0, 0, 0)
	}
	for _, many := range []uint64{4097, 1 << 32, 1 << 63, last} {
		refuses(t, k, 30, do(11, labels, many), 0, api.ErrArg)
		refuses(t, k, 30, do(99, nowhere, many), 0, api.ErrArg)
		refuses(t, k, 30, regs(api.Call{Op: api.CallSay, P: at(1, 2)}, 0, 0, labels, many), 0, api.ErrArg)
		does(t, k, 30, regs(api.Call{Op: api.CallNow}, 0, 0, nowhere, many), 0, 0, 0) // there it doesn't count
		does(t, k, 30, regs(api.Call{Op: api.CallResize, P: at(1, 14), A: 128}, 0, 0, nowhere, many), 0, 0, 0)
	}
	for _, addr := range []uint64{nowhere, secret, shut, shorts, shorts - 3, labels + 1, farEnd - 2, beyond, last - 2, last} {
		many := uint64(4)
		if addr == labels+1 {
			many = 4096
		}
		refuses(t, k, 30, do(11, addr, many), 0, api.ErrFault)
		refuses(t, k, 30, do(99, addr, many), 0, api.ErrFault)
	}
	does(t, k, 31, do(12, secret, 16), 0, 0, 0)
}

// TestFirstError: of several errors that of L comes first, then M's, then that of S or of the out, then the kernel's.
func TestFirstError(t *testing.T) {
	k := furnished(t)
	for _, op := range []int{api.CallWrite, api.CallSay, api.CallRead, api.CallHear, api.CallList, api.CallLook, api.CallSelf, api.CallMapped} {
		do := func(l, m, addr, many uint64, want api.Errno) {
			t.Helper()
			refuses(t, k, 30, regs(api.Call{Op: op, P: at(99, 99)}, l, m, addr, many), 0, want)
		}
		do(nowhere, labelAt(isNone), nowhere, last, api.ErrFault)
		do(labelAt(isNone), nowhere, nowhere, last, api.ErrForm)
		do(labelAt(isOne), nowhere, nowhere, last, api.ErrFault)
		do(0, labelAt(isSeventeen), nowhere, 1, api.ErrForm)
		do(labelAt(isTwo), 0, nowhere, 4097, api.ErrArg)
		do(0, labelAt(isTwo), nowhere, 1, api.ErrFault)
		if op != api.CallSelf {
			do(0, 0, data, 1, api.ErrNone)
		}
	}
}

// TestMap: what the mapping is that is asked for, and how it may be used.
func TestMap(t *testing.T) {
	for _, x := range []struct {
		many       uint64
		write, run bool
	}{{0, false, false}, {1, true, false}, {2, false, true}, {3, true, true}, {4, false, false}, {4097, true, false}, {last, true, true}, {last - 1, false, true}, {1 << 63, false, false}} {
		k := furnished(t)
		does(t, k, 30, regs(api.Call{Op: api.CallMap, P: at(1, 15), Q: at(88, 99), A: 70000, B: 3, C: 4}, 0, 0, nowhere, x.many), 0, 0, 0)
		o, _ := k.Object(15)
		want := api.Map{At: 70000, Pages: 3, From: 4, In: 88, Id: 99, Write: x.write, Run: x.run}
		if got := o.Maps[len(o.Maps)-2]; got != want {
			t.Errorf("R[11] %d: %+v, not %+v", x.many, got, want)
		}
	}
	k := furnished(t)
	for _, c := range []api.Call{{A: -1, B: 1, C: 0}, {A: 600, B: -1}, {A: 600, B: 1, C: -1}, {A: 600, B: 1, Q: at(-1, 1)}, {A: 600, B: 1, Q: at(1, least)}} {
		if c.Q == at(0, 0) {
			c.Q = at(1, 11)
		}
		c.Op, c.P = api.CallMap, at(1, 15)
		refuses(t, k, 30, regs(c, 0, 0, 0, 1), 0, api.ErrArg)
	}
}
