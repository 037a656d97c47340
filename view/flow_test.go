package view_test

import (
	"fmt"
	"slices"
	"strings"
	"testing"

	"gatehouse/api"
	"gatehouse/isa"
	"gatehouse/kern"
	"gatehouse/label"
	"gatehouse/mach"
	"gatehouse/view"
)

// Addresses in the address space 15 of a furnished kernel.
const (
	code    = 0        // segment 10, to run
	data    = 64 * 64  // segment 11 {1}, to write
	twenty  = 128 * 64 // segment 12 {1 20:3}, to write
	both    = 132 * 64 // segment 13 {1 20:3 21:3}, in the box 7, to write
	other   = 136 * 64 // segment 14 {1 21:3}, to write
	labels  = 300 * 64 // segment 18, to read alone: a label in each page but the first
	nowhere = 400 * 64 // nothing is mapped
)

// written are the labels that threads may hand in.
func written() []string {
	return []string{"{1}", "{1 20:3}", "{1 21:3}", "{1 20:3 21:3}", "{2}", "{3}", "{2 20:3}", "{3 20:2}", "{1 20:0}", "{1 20:*}", "{1 20:* 21:3}", "{1 20:* 21:*}", "{0}", "{*}"}
}

// program is what threads step through: mostly calls, and whatever reads and writes memory.
const program = "sys\nsys\nsys\nsys\nload r12 r13 1\nkeep r12 r13 1\npull r12 r13 0\npush r12 r13 0\nsys\nadd r3 r4 r5\nsys\nsys\nzero r1 1\nsys\nsys\nhalt\n"

// furnished answers a kernel with the root 1, the console 2, things of several labels in boxes of several, and threads, that have the address space 15.
func furnished(t *testing.T) *kern.Kernel {
	t.Helper()
	k, _ := kern.New(api.Boot{Root: 1, Console: 2, Thread: 3})
	one, top, root, maps := of("{1}"), of("{3}"), at(1, 0), at(1, 15)
	do := func(draw int, c api.Call) {
		t.Helper()
		if _, e := k.Do(3, c, draw); e != api.OK {
			t.Fatalf("%+v, draw %d: error %d", c, draw, e)
		}
	}
	do(20, api.Call{Op: api.CallOwn})
	do(21, api.Call{Op: api.CallOwn})
	for i, l := range []string{"{1}", "{1 20:3}", "{1 20:3 21:3}", "{1 21:3}", "{2}"} {
		do(5+i, api.Call{Op: api.CallBox, P: root, L: of(l), A: 5000})
	}
	do(10, api.Call{Op: api.CallCell, P: root, L: one, A: 5000, B: 4096})
	do(11, api.Call{Op: api.CallCell, P: root, L: one, A: 500, B: 256})
	do(12, api.Call{Op: api.CallCell, P: root, L: of("{1 20:3}"), A: 500, B: 256})
	do(13, api.Call{Op: api.CallCell, P: at(7, 0), L: of("{1 20:3 21:3}"), A: 500, B: 256})
	do(14, api.Call{Op: api.CallCell, P: root, L: of("{1 21:3}"), A: 500, B: 256})
	do(15, api.Call{Op: api.CallSpace, P: root, L: one, A: 1})
	do(16, api.Call{Op: api.CallDoor, P: root, Q: maps, L: of("{1 20:*}"), M: top, A: 1})
	do(17, api.Call{Op: api.CallDoor, P: root, Q: maps, L: of("{1 20:3}"), M: top, A: 1})
	do(18, api.Call{Op: api.CallCell, P: root, L: one, A: 5000, B: 4096})
	do(19, api.Call{Op: api.CallCell, P: at(6, 0), L: of("{1 20:3}"), A: 500, B: 64})
	do(22, api.Call{Op: api.CallSpace, P: at(6, 0), L: of("{1 20:3}"), A: 1})
	do(23, api.Call{Op: api.CallDoor, P: root, Q: maps, L: one, M: top, A: 1})
	for i, x := range []struct {
		in   int
		l, m string
	}{{1, "{1}", "{2}"}, {5, "{1}", "{3}"}, {1, "{1 20:3}", "{2 20:3}"}, {5, "{1 20:*}", "{3}"}, {1, "{1 21:3}", "{3}"}, {1, "{1 20:3 21:3}", "{3}"}, {5, "{2}", "{2 20:3}"}} {
		do(30+i, api.Call{Op: api.CallFlow, P: at(x.in, 0), Q: maps, L: of(x.l), M: of(x.m), A: 1})
	}
	for _, m := range []api.Map{
		{At: code / 64, Pages: 64, In: 1, Id: 10, Run: true}, {At: data / 64, Pages: 4, In: 1, Id: 11, Write: true},
		{At: twenty / 64, Pages: 4, In: 1, Id: 12, Write: true}, {At: both / 64, Pages: 4, In: 7, Id: 13, Write: true},
		{At: other / 64, Pages: 4, In: 1, Id: 14, Write: true}, {At: labels / 64, Pages: 64, In: 1, Id: 18},
	} {
		do(0, api.Call{Op: api.CallMap, P: maps, Map: m})
	}
	do(0, api.Call{Op: api.CallAim, Q: maps})
	s, _, _ := isa.Build(program)
	k.Fill(10, strings.Repeat(s, 4096/len(s)))
	row := make([]byte, 4096)
	for i, l := range written() {
		copy(row[64*(1+i):], label.Bytes(of(l)))
	}
	k.Fill(18, string(row))
	return k
}

// ref answers an object as an entry of a container, mostly of a kind.
func (d *dice) ref(k *kern.Kernel, kind int) api.Ref {
	var list, any []api.Ref
	for _, in := range k.Ids() {
		box, _ := k.Object(in)
		for _, id := range box.List {
			o, _ := k.Object(id)
			any = append(any, at(in, id))
			if o.Kind == kind {
				list = append(list, at(in, id))
			}
		}
	}
	if len(list) == 0 || d.roll(12) == 0 {
		return pick(d, append(any, at(0, 0), at(99, 99))...)
	}
	return pick(d, list...)
}

// wanted is the kind that a call's P is mostly of.
func (d *dice) wanted(op int) int {
	switch op {
	case api.CallShift:
		return api.Container
	case api.CallLink, api.CallRead, api.CallWrite, api.CallSize, api.CallResize, api.CallClone, api.CallWait, api.CallWake:
		return api.Segment
	case api.CallMap, api.CallUnmap, api.CallMapped:
		return api.Space
	case api.CallPost:
		return api.Thread
	case api.CallSay, api.CallHear:
		return api.Device
	case api.CallEnter:
		return api.Gate
	}
	return 1 + d.roll(6)
}

// address answers one of memory, mostly where a thread of this label may write.
func (d *dice) address(l api.Label) uint64 {
	places := []uint64{data, twenty, both, other, labels, nowhere}
	if d.roll(4) > 0 {
		for i, s := range []string{"{1}", "{1 20:3}", "{1 20:3 21:3}", "{1 21:3}"} {
			if label.Alters(l, of(s)) {
				return places[i] + uint64(d.roll(200))
			}
		}
	}
	return pick(d, places...) + uint64(d.roll(200))
}

// labelAddress answers where a label stands, mostly this one.
func (d *dice) labelAddress(l api.Label) uint64 {
	i := slices.Index(written(), label.Text(l))
	if i < 0 || d.roll(3) == 0 {
		i = d.roll(len(written()))
	}
	return labels + 64*uint64(1+i)
}

// registers answers a state in which a thread asks for something.
func (d *dice) registers(k *kern.Kernel, thread int) api.State {
	t, _ := k.Object(thread)
	op := 1 + d.roll(32)
	switch {
	case d.roll(5) == 0:
		op = pick(d, api.CallWait, api.CallWake, api.CallWake, api.CallList)
	case op == api.CallHalt && d.roll(4) > 0:
		op = api.CallNow
	}
	p, q := d.ref(k, d.wanted(op)), at(1, 15)
	a, b, c := 1+d.roll(60), d.roll(20), d.roll(9)
	switch op {
	case api.CallBox, api.CallCell, api.CallSpace, api.CallFlow, api.CallDoor, api.CallList:
		p.In = pick(d, 1, 5, 6, 7, 8, d.ref(k, api.Container).Id)
	case api.CallLink, api.CallClone:
		q.In = pick(d, 1, 5, 6, 7, 8, d.ref(k, api.Container).Id)
		a += 256
	case api.CallDrop:
		if d.roll(3) > 0 || p == at(1, 15) || p == at(1, 10) { // so that there is something left
			p.Id = 99
		}
	case api.CallMap:
		q, a, b = d.ref(k, api.Segment), 500+d.roll(9), 1+d.roll(2)
	case api.CallUnmap:
		a = 500 + d.roll(9)
	case api.CallWait, api.CallWake, api.CallRead, api.CallWrite:
		a, b = pick(d, 0, 0, 8, d.roll(60)), pick(d, 0, 0, 8)
	case api.CallShift:
		a = d.roll(40) - 20
	case api.CallAim:
		b = 4 * d.roll(1000)
	}
	return api.State{Pc: uint64(4 * d.roll(1024)), R: [api.Regs]uint64{
		uint64(op), uint64(p.In), uint64(p.Id), uint64(q.In), uint64(q.Id), uint64(a), uint64(b), uint64(c),
		d.labelAddress(t.Label), d.labelAddress(t.Clear), d.address(t.Label), uint64(d.roll(60)), uint64(d.roll(300)), d.address(t.Label),
	}}
}

// twin is two kernels in which an observer sees the same.
type twin struct {
	k    [2]*kern.Kernel
	m    [2]*mach.Machine
	seen []api.Object
	l    api.Label
}

// newTwin furnishes two kernels that are unlike in the bytes of all hidden segments.
func newTwin(t *testing.T, d *dice, l api.Label) *twin {
	w := &twin{l: l}
	for i := range 2 {
		k := furnished(t)
		k.Put(2, "what was put in")
		for _, o := range view.Dump(k) {
			if o.Kind == api.Segment && !view.Low(l, o) {
				k.Fill(o.Id, strings.Repeat(pick(d, "\x00", "a", "bc", "\xff"), d.roll(100)))
			}
		}
		w.k[i], w.m[i] = k, mach.New(k)
	}
	w.seen = w.see(0)
	return w
}

func (w *twin) see(i int) []api.Object { return view.See(view.Dump(w.k[i]), 1, w.l) }

// sees tells whether an object is visible.
func (w *twin) sees(id int) bool {
	return slices.ContainsFunc(w.seen, func(o api.Object) bool { return o.Id == id })
}

// mayRun tells whether the promise speaks of a step of this thread: it isn't an owner, and isn't about to go through a gate that is.
func (w *twin) mayRun(thread int) bool {
	for _, k := range w.k {
		o, _ := k.Object(thread)
		gate, _ := k.Object(int(o.State.R[2]))
		if view.Owner(w.l, o) || o.State.R[0] == api.CallEnter && view.Owner(w.l, gate) {
			return false
		}
	}
	return true
}

// give lets a thread have registers: a visible one the same in both kernels, a hidden one whatever in each.
func (w *twin) give(d *dice, thread int) {
	st := d.registers(w.k[0], thread)
	for i, k := range w.k {
		if i > 0 && !w.sees(thread) {
			st = d.registers(k, thread)
		}
		k.SetState(thread, st)
	}
}

// unlike tells in what two lists of objects aren't the same.
func unlike(a, b []api.Object) string {
	for i := range min(len(a), len(b)) {
		if !view.Same(a[i:i+1], b[i:i+1]) {
			return fmt.Sprintf("%+q\nand %+q", plainly(a[i:i+1]), plainly(b[i:i+1]))
		}
	}
	return fmt.Sprint(len(a), " objects and ", len(b))
}

// TestFlow: what an observer sees doesn't hang on the bytes of hidden segments, nor on the registers of hidden threads, whatever they do (P1). Each number is drawn for one step alone, as the kernel's rows let whoever draws one again know that it was drawn.
func TestFlow(t *testing.T) {
	d, hidden, moved, secret := dice(1), 0, 0, 0
	for row := range 320 {
		l := of([]string{"{1}", "{1 20:3}", "{1 21:3}", "{2}", "{2 20:3}", "{3 20:1}", "{3 21:2}", "{1 20:2}"}[row%8])
		w := newTwin(t, &d, l)
		for step := range 60 {
			p := api.Pick{Thread: pick(&d, 3, 30, 31, 32, 33, 34, 35, 36, d.ref(w.k[d.roll(2)], api.Thread).Id), Draw: 100 + step}
			switch d.roll(20) {
			case 0:
				p.Kind = api.PickTick
			case 1:
				p.Kind, p.Thread, p.S = api.PickPut, 2, "more"
			default:
				w.give(&d, p.Thread)
				w.seen = w.see(0)
				if !w.mayRun(p.Thread) {
					continue
				}
			}
			was, events := w.seen, [2]api.Event{w.m[0].Step(p), w.m[1].Step(p)}
			w.seen = w.see(0)
			if now := w.see(1); !view.Same(w.seen, now) {
				t.Fatalf("row %d, step %d: %v: %+v: %+v: %s", row, step, l, p, events, unlike(w.seen, now))
			}
			switch {
			case events[0] != events[1]:
				hidden++
			case !view.Same(was, w.seen):
				moved++
			}
			if !view.Same(view.Dump(w.k[0]), view.Dump(w.k[1])) {
				secret++
			}
		}
	}
	if hidden < 1000 || moved < 1000 || secret < 10000 {
		t.Error("too little happened:", hidden, "hidden steps,", moved, "that were seen,", secret, "behind which there were secrets")
	}
}

// TestKernelsDumps: whoever sees the root sees, of a kernel, all that is low but threads and gates.
func TestKernelsDumps(t *testing.T) {
	d, deep := dice(5), 0
	for range 60 {
		k := furnished(t)
		m := mach.New(k)
		for step := range 60 {
			thread := pick(&d, 3, 3, 30, 31, 32, 33, 34, 35, 36, d.ref(k, api.Thread).Id)
			k.SetState(thread, d.registers(k, thread))
			m.Step(api.Pick{Thread: thread, Draw: 100 + step})
		}
		dump := view.Dump(k)
		for _, s := range append(written(), "{1 20:2 21:3}", "{3 20:0}") {
			l := of(s)
			if !label.Free(l) || !label.Leq(of("{1}"), l) {
				equal(t, s, view.Visible(dump, 1, l), nil)
				continue
			}
			ids := view.Visible(dump, 1, l)
			for _, o := range dump {
				if view.Low(l, o) && o.Kind != api.Thread && o.Kind != api.Gate && !slices.Contains(ids, o.Id) {
					t.Fatalf("%s: %+v is hidden", s, o)
				}
			}
			if len(ids) > 25 {
				deep++
			}
		}
	}
	if deep < 50 {
		t.Error("only", deep, "dumps of many objects")
	}
}
