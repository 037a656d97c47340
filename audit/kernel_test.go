package audit_test

import (
	"fmt"
	"strings"
	"testing"

	"gatehouse/api"
	"gatehouse/audit"
	"gatehouse/isa"
	"gatehouse/kern"
	"gatehouse/label"
	"gatehouse/mach"
	"gatehouse/view"
)

// ref answers an entry of a container, mostly one that names an object of this kind.
func (d *dice) ref(dump []api.Object, kind int) api.Ref {
	var list, any []api.Ref
	for _, box := range dump {
		for _, id := range box.List {
			o, _ := named(dump, id)
			any = append(any, at(box.Id, id))
			if o.Kind == kind {
				list = append(list, at(box.Id, id))
			}
		}
	}
	if len(list) == 0 || d.roll(12) == 0 {
		return pick(d, append(any, at(0, 0), at(99, 99))...)
	}
	return pick(d, list...)
}

// wanted is the kind that a call's P is mostly of.
func (d *dice) wanted(op int) int {
	switch op {
	case api.CallLink:
		return pick(d, api.Segment, api.Gate)
	case api.CallShift:
		return api.Container
	case api.CallRead, api.CallWrite, api.CallSize, api.CallResize, api.CallClone, api.CallWait, api.CallWake:
		return api.Segment
	case api.CallMap, api.CallUnmap, api.CallMapped:
		return api.Space
	case api.CallPost:
		return api.Thread
	case api.CallSay, api.CallHear:
		return api.Device
	case api.CallEnter:
		return api.Gate
	}
	return 1 + d.roll(6)
}

// op answers which call is asked for: such as end things seldom, such as let threads wait and wake often.
func (d *dice) op() int {
	if d.roll(5) == 0 {
		return pick(d, api.CallWait, api.CallWake, api.CallWake, api.CallPost)
	}
	op := 1 + d.roll(32)
	if (op == api.CallHalt || op == api.CallDrop) && d.roll(3) > 0 {
		return api.CallFlow
	}
	return op
}

// runner answers a thread, mostly one that runs; false, if none does.
func (d *dice) runner(dump []api.Object) (int, bool) {
	var list []int
	for _, o := range dump {
		if o.Kind == api.Thread && o.Does == api.Runs {
			list = append(list, o.Id)
		}
	}
	if len(list) == 0 {
		return 0, false
	}
	return pick(d, pick(d, list...), pick(d, list...), pick(d, list...), d.ref(dump, api.Thread).Id), true
}

// size answers a number of few, seldom an end.
func (d *dice) size() int {
	if d.roll(20) == 0 {
		return pick(d, least, -1, 4095, 4096, 4097, api.MaxQuota, highest)
	}
	return pick(d, 0, 0, 1, 8, d.roll(30), d.roll(300))
}

// names are the labels that calls are asked with.
func names() []string {
	return []string{"{1}", "{1 20:3}", "{1 20:*}", "{2}", "{3}", "{2 20:3}", "{3 20:2}", "{1 20:0}", "{1 21:3}", "{0}", "{*}", "{J}"}
}

// call answers a call of a thread; what it asks for is mostly there.
func (d *dice) call(dump []api.Object, thread int) api.Call {
	t, _ := named(dump, thread)
	c := api.Call{Op: d.op(), A: d.size(), B: d.size(), C: d.size(), S: strings.Repeat("s", d.roll(30))}
	c.P, c.Q = d.ref(dump, d.wanted(c.Op)), d.ref(dump, pick(d, api.Space, api.Segment))
	c.L, c.M = pick(d, t.Label, of("{1}"), of(pick(d, names()...))), pick(d, t.Clear, t.Clear, of(pick(d, names()...)))
	switch c.Op {
	case api.CallBox, api.CallCell, api.CallSpace, api.CallFlow, api.CallDoor:
		c.A, c.B = 1+d.size()&1023, d.roll(2)*d.size()
	case api.CallClone, api.CallLink:
		c.A, c.Q.In = pick(d, 4096, 256, d.size()), pick(d, 1, 5, 6, d.ref(dump, api.Container).Id)
	case api.CallShift:
		c.A = d.size() - d.size()
	case api.CallMap:
		c.Map = api.Map{At: 300 + d.roll(20), Pages: 1 + d.roll(3), In: c.Q.In, Id: c.Q.Id, From: d.roll(3), Write: d.roll(2) > 0}
	case api.CallUnmap:
		if o, _ := named(dump, c.P.Id); len(o.Maps) > 0 {
			c.A = pick(d, o.Maps...).At
		}
	case api.CallWait, api.CallWake:
		c.A, c.B = pick(d, 0, 8, 8, d.size()), pick(d, 0, 0, 0, d.size())
	}
	return c
}

// seen counts what went well, and what dumps had that can be wrong.
type seen struct {
	done                              [33]int
	waiting, alerts, linked, mappings int
}

// note tells whether a dump is right, and counts what it has.
func (s *seen) note(t *testing.T, what any, d []api.Object) {
	t.Helper()
	if list := audit.Check(d, 1); len(list) > 0 || !audit.Right(d, 1) {
		t.Fatalf("%+v: %v of %.4000s", what, list, fmt.Sprint(d))
	}
	for _, o := range d {
		s.waiting += o.Does & api.Waits
		s.alerts += len(o.Alerts)
		s.mappings += len(o.Maps)
		if o.Kind != api.Container && o.Links > 1 {
			s.linked++
		}
	}
}

// enough tells whether there was much of all.
func (s *seen) enough(t *testing.T) {
	t.Helper()
	for op, n := range s.done {
		if n < 20 && op > 0 {
			t.Errorf("call %d went well only %d times", op, n)
		}
	}
	if s.waiting < 1000 || s.alerts < 1000 || s.linked < 1000 || s.mappings < 1000 {
		t.Error("too little:", s.waiting, s.alerts, s.linked, s.mappings)
	}
}

// outside does what comes from outside.
func outside(d *dice, k *kern.Kernel, dump []api.Object) {
	id := d.ref(dump, 1+d.roll(6)).Id
	k.Tick()
	k.Put(id, d.row())
	k.Fill(id, strings.Repeat("\x00", d.roll(300)))
	k.SetState(id, api.State{Pc: uint64(d.roll(4000))})
	k.Store(id, uint64(d.roll(4000)), "stored")
}

// TestRowsOfCalls: behind whatever calls a kernel's dump is right.
func TestRowsOfCalls(t *testing.T) {
	d, s := dice(122), &seen{}
	for row := range 120 {
		k := furnished(t)
		if row%8 == 0 {
			k, _ = kern.New(api.Boot{Root: 1, Console: 2, Thread: 3})
		}
		dump := view.Dump(k)
		for step := range 250 {
			thread, ok := d.runner(dump)
			if !ok {
				break
			}
			c := d.call(dump, thread)
			if d.roll(12) == 0 {
				outside(&d, k, dump)
			}
			_, e := k.Do(thread, c, pick(&d, 100+step, 100+step, 100+step, 21, 22))
			if e == api.OK {
				s.done[c.Op]++
			}
			dump = view.Dump(k)
			s.note(t, c, dump)
		}
	}
	s.enough(t)
}

// TestFullKernel: of as many objects as there may be, and a container without room, the dump is right.
func TestFullKernel(t *testing.T) {
	k, _ := kern.New(api.Boot{Root: 1, Console: 2, Thread: 3})
	k.Do(3, api.Call{Op: api.CallBox, P: at(1, 0), L: of("{1}"), A: 4093}, 4)
	for draw := 5; ; draw++ {
		_, e := k.Do(3, api.Call{Op: api.CallCell, P: at(4, 0), L: of("{1}"), A: 1, B: 1}, draw)
		if e != api.OK {
			break
		}
	}
	d := view.Dump(k)
	if len(d) != api.MaxObjects {
		t.Fatal(len(d), "objects")
	}
	tells(t, "full", d, 1)
	d[3].Quota = 4091
	tells(t, "a quota less", d, 1, is(1, api.BadUsed), is(4, api.BadUsed))
}

// page answers where a label stands in a peopled kernel's memory: all of them stand in the second half of the segment 10.
func page(i int) int { return 2048 + 64*i }

// peopled answers a kernel with several threads that run, in the address space 15: the segment 10 {1}, which may be run and written, stands there from 0 on, the segment 12 {1 20:3}, which may be written, from 200 * 64 on.
func peopled(t *testing.T, code string) *kern.Kernel {
	t.Helper()
	k := furnished(t)
	k.Do(3, api.Call{Op: api.CallWake, P: at(1, 10), A: 8}, 0)
	for i, x := range [][2]string{{"{1}", "{3}"}, {"{1 20:3}", "{3}"}, {"{1 20:*}", "{3}"}, {"{2}", "{2 20:3}"}} {
		if _, e := k.Do(3, api.Call{Op: api.CallFlow, P: at(1, 0), Q: at(1, 15), L: of(x[0]), M: of(x[1]), A: 1}, 40+i); e != api.OK {
			t.Fatal(x, e)
		}
	}
	row := make([]byte, 4096)
	copy(row, code)
	for i, s := range names() {
		copy(row[page(i):], label.Bytes(of(s)))
	}
	k.Fill(10, string(row))
	return k
}

// registers answers a call as a thread asks for it by a sys.
func (d *dice) registers(c api.Call) api.State {
	return api.State{Pc: uint64(4 * d.roll(500)), R: [api.Regs]uint64{
		uint64(c.Op), uint64(c.P.In), uint64(c.P.Id), uint64(c.Q.In), uint64(c.Q.Id), uint64(c.A), uint64(c.B), uint64(c.C),
		uint64(pick(d, 0, page(d.roll(len(names()))))), uint64(page(d.roll(len(names())))),
		uint64(pick(d, 3000, 200*64, d.roll(5000))), uint64(d.roll(60)), uint64(d.roll(9)), uint64(d.roll(5000)),
	}}
}

// TestRowsOfSteps: behind whatever a thread asks for by a sys a machine's kernel is right.
func TestRowsOfSteps(t *testing.T) {
	d, s := dice(124), &seen{}
	sys, _, _ := isa.Build("sys")
	for range 300 {
		k := peopled(t, strings.Repeat(sys, 500))
		m, dump := mach.New(k), view.Dump(k)
		for step := range 250 {
			thread, ok := d.runner(dump)
			if !ok {
				break
			}
			p := api.Pick{Thread: thread, Draw: 100 + step}
			switch d.roll(30) {
			case 0:
				p.Kind = api.PickTick
			case 1:
				p.Kind, p.Thread, p.S = api.PickPut, 2, d.row()
			default:
				c := d.call(dump, p.Thread)
				if c.Op == api.CallMap {
					c.A, c.B, c.C = c.Map.At, c.Map.Pages, c.Map.From
				}
				k.SetState(p.Thread, d.registers(c))
			}
			e := m.Step(p)
			if e.What == api.Called && e.Err == api.OK {
				s.done[e.Op]++
			}
			dump = view.Dump(k)
			s.note(t, e, dump)
		}
	}
	s.enough(t)
}

// instruction answers the bytes of one, seldom of none: mostly a sys, or what tells the next one what to ask for.
func (d *dice) instruction() string {
	a, b, c, n := byte(d.roll(16)), byte(d.roll(16)), byte(d.roll(16)), byte(d.roll(256))
	return string(pick(d,
		[]byte{api.OpSys, 0, 0, 0}, []byte{api.OpSys, 0, 0, 0}, []byte{api.OpSys, 0, 0, 0}, []byte{api.OpSet, 0, byte(d.roll(33)), 0}, []byte{api.OpSet, a, b, 0},
		[]byte{byte(api.OpAdd + d.roll(12)), a, b, c}, []byte{byte(api.OpLoad + d.roll(4)), a, b, n}, []byte{api.OpZero, a, b, 0}, []byte{api.OpGo, 0, b, 0},
		[]byte{pick[byte](d, api.OpHalt, api.OpNop, api.OpNop, api.OpNop, api.OpBack), 0, 0, 0}, []byte{pick(d, n, api.OpNop), 0, 0, 0},
	))
}

// TestWhateverBytes: behind whatever bytes are stepped through it is right, too.
func TestWhateverBytes(t *testing.T) {
	d, s, did := dice(125), &seen{}, [6]int{}
	for range 60 {
		code := ""
		for range 500 {
			code += d.instruction()
		}
		k := peopled(t, code)
		m, dump := mach.New(k), view.Dump(k)
		for _, thread := range []int{3, 30, 40, 41, 42, 43} {
			k.SetState(thread, d.registers(d.call(dump, thread)))
		}
		for step := range 150 {
			e := m.Step(api.Pick{Thread: pick(&d, 3, 30, 40, 41, 42, 43, 100+d.roll(step+1)), Draw: 100 + step})
			did[e.What]++
			s.note(t, e, view.Dump(k))
		}
	}
	for what, n := range did {
		if n < 10 {
			t.Error("only", n, "steps are", what)
		}
	}
}
