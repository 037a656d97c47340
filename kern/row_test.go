package kern_test

import (
	"fmt"
	"maps"
	"slices"
	"strings"
	"testing"

	"gatehouse/api"
	"gatehouse/kern"
	"gatehouse/label"
)

// pair is a kernel, and what it ought to be.
type pair struct {
	k *kern.Kernel
	m *model
}

func sameLabel(a, b api.Label) bool { return a.Def == b.Def && slices.Equal(a.Cats, b.Cats) }

func sameTold(a, b api.Told) bool {
	return a.N == b.N && a.S == b.S && sameLabel(a.L, b.L) && sameLabel(a.M, b.M) && slices.Equal(a.List, b.List) && slices.Equal(a.Maps, b.Maps)
}

func sameObject(a, b api.Object) bool {
	return a.Id == b.Id && a.Kind == b.Kind && a.Quota == b.Quota && a.Used == b.Used && a.Links == b.Links && sameLabel(a.Label, b.Label) &&
		slices.Equal(a.List, b.List) && a.Bytes == b.Bytes && slices.Equal(a.Maps, b.Maps) && sameLabel(a.Clear, b.Clear) && a.Space == b.Space && a.State == b.State &&
		a.Entry == b.Entry && a.Does == b.Does && a.Seg == b.Seg && a.Off == b.Off && slices.Equal(a.Alerts, b.Alerts) && a.Heard == b.Heard && a.Out == b.Out
}

// differs tells in what the kernel isn't what it ought to be.
func (p *pair) differs() string {
	ids := slices.Sorted(maps.Keys(p.m.all))
	if !slices.Equal(p.k.Ids(), ids) || p.k.Ticks() != p.m.ticks {
		return fmt.Sprint(p.k.Ids(), p.k.Ticks(), "not", ids, p.m.ticks)
	}
	for _, id := range ids {
		if o, ok := p.k.Object(id); !ok || !sameObject(o, p.m.all[id]) {
			return fmt.Sprintf("%+v, not %+v", o, p.m.all[id])
		}
	}
	return ""
}

// drawnUnlike tells of which number the two don't say alike whether it was drawn.
func (p *pair) drawnUnlike(upTo int) string {
	for n := -1; n < upTo; n++ {
		if p.k.Drawn(n) != p.m.drawn[n] {
			return fmt.Sprint("drawn: ", n, p.k.Drawn(n))
		}
	}
	return ""
}

func (p *pair) copied() *pair { return &pair{p.k.Copy(), p.m.copied()} }

// These answer what a call may be asked with: mostly what is there, seldom what can't be.

func (d *dice) number(m *model) int {
	if d.roll(20) == 0 {
		return pick(d, append(wrongNumbers(), api.MaxId, 77)...)
	}
	return pick(d, slices.Sorted(maps.Keys(m.all))...)
}

func (d *dice) ofKind(m *model, kind int) int {
	var list []int
	for _, id := range slices.Sorted(maps.Keys(m.all)) {
		if m.all[id].Kind == kind {
			list = append(list, id)
		}
	}
	if len(list) == 0 || d.roll(25) == 0 {
		return d.number(m)
	}
	return pick(d, list...)
}

// ref answers where an object is an entry, mostly of a kind.
func (d *dice) ref(m *model, kind int) api.Ref {
	if d.roll(30) == 0 {
		return api.Ref{In: d.number(m), Id: d.number(m)}
	}
	id := d.ofKind(m, kind)
	if d.roll(12) == 0 {
		id = d.number(m)
	}
	var list []api.Ref
	for _, in := range slices.Sorted(maps.Keys(m.all)) {
		if slices.Contains(m.all[in].List, id) {
			list = append(list, api.Ref{In: in, Id: id})
		}
	}
	if len(list) == 0 {
		return api.Ref{In: d.ofKind(m, api.Container), Id: id}
	}
	return pick(d, list...)
}

// small answers a number of few, seldom an end.
func (d *dice) small(n int) int {
	if d.roll(25) == 0 {
		return pick(d, least, -1, 4096, 4097, api.MaxQuota, api.MaxQuota+1, highest)
	}
	return d.roll(n)
}

// changed answers a label with other levels at few categories.
func (d *dice) changed(l api.Label) api.Label {
	for range d.roll(3) {
		l, _ = label.With(l, 20+d.roll(3), pick(d, api.Star, api.L0, api.L1, api.L2, api.L3, api.L3))
	}
	return l
}

func (d *dice) label(m *model, thread int) api.Label {
	switch d.roll(16) {
	case 0:
		return pick(d, notPlain()...)
	case 1:
		return pick(d, of("{0}"), of("{2}"), of("{3}"), of("{*}"))
	case 2:
		return m.all[d.number(m)].Label
	case 3, 4, 5:
		return d.changed(m.all[thread].Label)
	case 6, 7:
		return m.all[thread].Label
	case 8, 9, 10, 11:
		return of("{1}")
	}
	return d.changed(of("{1}"))
}

func (d *dice) clearance(m *model, thread int) api.Label {
	switch d.roll(10) {
	case 0:
		return pick(d, notFree()...)
	case 1:
		return pick(d, of("{1}"), of("{1 20:3}"), of("{0}"))
	case 2, 3:
		return pick(d, of("{2}"), of("{2 20:3}"), of("{2 21:3 22:3}"))
	case 4, 5:
		return d.changed(m.all[thread].Clear)
	}
	return m.all[thread].Clear
}

func (d *dice) mapping(m *model) api.Map {
	r := d.ref(m, api.Segment)
	x := api.Map{At: d.small(8), Pages: 1 + d.small(3), In: r.In, Id: r.Id, From: d.small(2), Write: d.roll(4) > 0, Run: d.roll(2) > 0}
	if d.roll(15) == 0 {
		x.Pages = d.small(100)
	}
	return x
}

// wanted is the kind that a call's P is mostly of.
func (d *dice) wanted(op int) int {
	switch op {
	case api.CallLink:
		return pick(d, api.Segment, api.Gate)
	case api.CallShift:
		return api.Container
	case api.CallRead, api.CallWrite, api.CallSize, api.CallResize, api.CallClone, api.CallWait, api.CallWake:
		return api.Segment
	case api.CallMap, api.CallUnmap, api.CallMapped:
		return api.Space
	case api.CallPost:
		return api.Thread
	case api.CallSay, api.CallHear:
		return api.Device
	case api.CallEnter:
		return api.Gate
	}
	return 1 + d.roll(6)
}

// call answers a call of a thread.
func (d *dice) call(m *model, thread int) api.Call {
	c := api.Call{Op: 1 + d.roll(32)}
	switch d.roll(60) {
	case 0:
		c.Op = pick(d, 0, -1, 33, least, highest)
	case 1, 2, 3, 4, 5:
		c.Op = pick(d, api.CallWait, api.CallWake)
	case 6, 7, 8, 9, 10, 11:
		c.Op = pick(d, api.CallPost, api.CallPost, api.CallPost, api.CallTake)
	case 12, 13:
		c.Op = pick(d, api.CallSay, api.CallHear)
	}
	c.P, c.Q = d.ref(m, d.wanted(c.Op)), d.ref(m, api.Space)
	c.A, c.B, c.C = d.small(20), d.small(20), d.small(5)
	c.L, c.M = d.label(m, thread), d.clearance(m, thread)
	c.S = strings.Repeat(pick(d, "a", "\x00", "\xff"), d.roll(5))
	switch c.Op {
	case api.CallHalt:
		if d.roll(8) > 0 {
			c.Op = api.CallSelf
		}
	case api.CallBox, api.CallCell, api.CallSpace, api.CallFlow, api.CallDoor, api.CallList:
		c.P.In = d.ofKind(m, api.Container)
		c.A = 1 + d.small(120)
	case api.CallClone, api.CallLink:
		c.Q.In = d.ofKind(m, api.Container)
		c.A = 1 + d.small(120)
	case api.CallShift:
		c.A = d.roll(60) - 30
		if d.roll(5) == 0 {
			c.A = pick(d, least, highest, api.MaxQuota, api.MaxQuota+1, -api.MaxQuota-1)
		}
	case api.CallMap:
		c.Map = d.mapping(m)
	case api.CallUnmap:
		c.A = d.small(8)
	case api.CallWait, api.CallWake:
		c.A, c.B = pick(d, 0, 0, 8, d.small(20)), pick(d, 0, 0, d.small(5))
	case api.CallPost:
		c.A = pick(d, d.small(256), d.roll(256))
	case api.CallResize:
		c.A = d.small(150)
	case api.CallSay:
		if d.roll(3) == 0 {
			c.S = strings.Repeat("x", 1000+d.roll(3000))
		}
	case api.CallHear:
		c.A = pick(d, c.A, -1, 4096)
	}
	return c
}

// tally counts what calls of each Op came to.
type tally map[[2]int]int

// step does one call of the kernel and of its model: what was called, by which thread (0: from outside), and whether the answers differ.
func (p *pair) step(d *dice, fresh int, count tally) (what string, by int, wrong bool) {
	thread, m := d.ofKind(p.m, api.Thread), p.m
	switch d.roll(16) {
	case 0:
		addr, n, need := uint64(d.small(600)), pick(d, 1, 4, 8, d.small(200)), d.small(3)
		got, e := p.k.Load(thread, addr, n, need)
		want, f := m.load(thread, addr, n, need)
		count[[2]int{100, int(e)}]++
		return fmt.Sprint("Load ", thread, addr, n, need, got, e, want, f), thread, got != want || e != f
	case 1:
		addr, s := uint64(d.small(600)), strings.Repeat("s", pick(d, 0, 1, 1, 8, 8, 70, d.roll(5000)))
		e, f := p.k.Store(thread, addr, s), m.store(thread, addr, s)
		count[[2]int{101, int(e)}]++
		return fmt.Sprint("Store ", thread, addr, s, e, f), thread, e != f
	case 2:
		what, wrong = p.outside(d, count)
		return what, 0, wrong
	}
	c, draw := d.call(m, thread), fresh
	switch d.roll(20) {
	case 0:
		draw = pick(d, append(wrongNumbers(), d.number(m))...)
	case 1, 2:
		draw = 20 + d.roll(3) // mostly a category that was owned already, or is by this
	}
	got, e := p.k.Do(thread, c, draw)
	want, f := m.do(thread, c, draw)
	count[[2]int{c.Op, int(e)}]++
	return fmt.Sprintf("%d: %+v %d: %+v, %d, not %+v, %d", thread, c, draw, got, e, want, f), thread, !sameTold(got, want) || e != f
}

// outside does what comes from outside.
func (p *pair) outside(d *dice, count tally) (string, bool) {
	some := func(kind int) int {
		if d.roll(10) == 0 {
			return pick(d, wrongNumbers()...)
		}
		return d.ofKind(p.m, kind)
	}
	switch d.roll(4) {
	case 0:
		p.k.Tick()
		p.m.ticks++
		return "Tick", false
	case 1:
		id, s := some(api.Device), strings.Repeat("p", pick(d, 0, 3, 9, d.roll(5000)))
		e, f := p.k.Put(id, s), p.m.put(id, s)
		count[[2]int{102, int(e)}]++
		return fmt.Sprint("Put ", id, s, e, f), e != f
	case 2:
		id, s := some(api.Segment), strings.Repeat("f", pick(d, 0, 3, 9, d.roll(200), d.roll(5000)))
		e, f := p.k.Fill(id, s), p.m.fill(id, s)
		count[[2]int{103, int(e)}]++
		return fmt.Sprint("Fill ", id, s, e, f), e != f
	}
	id, st := some(api.Thread), api.State{Pc: uint64(d.roll(1000))}
	e, f := p.k.SetState(id, st), p.m.setState(id, st)
	count[[2]int{104, int(e)}]++
	return fmt.Sprint("SetState ", id, st, e, f), e != f
}

// furnish gives a kernel the calls that a row is to begin with, so that there is something of each kind.
func (p *pair) furnish(t *testing.T) {
	t.Helper()
	for i, c := range []api.Call{
		{Op: api.CallOwn},
		{Op: api.CallBox, P: at(1, 0), L: of("{1}"), A: 1000},
		{Op: api.CallBox, P: at(1, 0), L: of("{1 20:3}"), A: 400},
		{Op: api.CallCell, P: at(1, 0), L: of("{1}"), A: 200, B: 128},
		{Op: api.CallCell, P: at(1, 0), L: of("{1 20:3}"), A: 100, B: 16},
		{Op: api.CallCell, P: at(22, 0), L: of("{1 20:3}"), A: 100, B: 16},
		{Op: api.CallSpace, P: at(1, 0), L: of("{1}"), A: 1},
		{Op: api.CallMap, P: at(1, 26), Map: api.Map{At: 0, Pages: 2, In: 1, Id: 23, Write: true, Run: true}},
		{Op: api.CallDoor, P: at(1, 0), Q: at(1, 26), L: of("{1 20:*}"), M: of("{3}"), A: 1},
		{Op: api.CallFlow, P: at(1, 0), Q: at(1, 26), L: of("{1}"), M: of("{2}"), A: 1},
		{Op: api.CallFlow, P: at(1, 0), Q: at(1, 26), L: of("{1}"), M: of("{3}"), A: 1},
		{Op: api.CallFlow, P: at(1, 0), Q: at(1, 26), L: of("{1 20:3}"), M: of("{3}"), A: 1},
		{Op: api.CallAim, Q: at(1, 26)},
	} {
		_, e := p.k.Do(3, c, 20+i)
		if _, f := p.m.do(3, c, 20+i); e != api.OK || f != api.OK {
			t.Fatal("furnishing", i, e, f)
		}
	}
}

// outcomes are the errors that calls of each Op must have come to in the rows, so that those say something of all (100 and on: Load, Store, Put, Fill, SetState).
func outcomes() map[int][]api.Errno {
	kinds := []api.Errno{api.OK, api.ErrNone, api.ErrKind, api.ErrLabel}
	made := []api.Errno{api.OK, api.ErrNone, api.ErrArg, api.ErrLabel, api.ErrId, api.ErrQuota}
	return map[int][]api.Errno{
		api.CallOwn: {api.OK, api.ErrArg, api.ErrId}, api.CallRise: {api.OK, api.ErrArg, api.ErrLabel}, api.CallClear: {api.OK, api.ErrArg, api.ErrLabel},
		api.CallBox: made, api.CallCell: made, api.CallSpace: made, api.CallFlow: made, api.CallDoor: made, api.CallClone: append(made, api.ErrKind),
		api.CallLink: append(kinds, api.ErrArg, api.ErrQuota), api.CallDrop: {api.OK, api.ErrNone, api.ErrLabel}, api.CallShift: append(kinds, api.ErrArg, api.ErrQuota),
		api.CallList: {api.OK, api.ErrNone}, api.CallLook: {api.OK, api.ErrNone, api.ErrLabel},
		api.CallRead: append(kinds, api.ErrFault), api.CallWrite: append(kinds, api.ErrFault), api.CallSize: kinds, api.CallResize: append(kinds, api.ErrArg, api.ErrQuota),
		api.CallMap: append(kinds, api.ErrArg, api.ErrForm), api.CallUnmap: kinds, api.CallMapped: kinds,
		api.CallWait: append(kinds, api.ErrFault, api.ErrAgain), api.CallWake: append(kinds, api.ErrFault),
		api.CallPost: append(kinds, api.ErrArg, api.ErrFull), api.CallTake: {api.OK, api.ErrAgain}, api.CallHalt: {api.OK},
		api.CallSay: append(kinds, api.ErrFull), api.CallHear: append(kinds, api.ErrArg), api.CallNow: {api.OK},
		api.CallEnter: append(kinds, api.ErrArg), api.CallSelf: {api.OK, api.ErrDead}, api.CallAim: {api.OK, api.ErrArg},
		100: {api.OK, api.ErrFault, api.ErrDead}, 101: {api.OK, api.ErrFault, api.ErrDead},
		102: {api.OK, api.ErrNone, api.ErrKind, api.ErrFull}, 103: {api.OK, api.ErrNone, api.ErrKind, api.ErrQuota}, 104: {api.OK, api.ErrNone, api.ErrKind},
	}
}

// enough tells whether the rows had all outcomes.
func enough(t *testing.T, count tally) {
	t.Helper()
	for op, list := range outcomes() {
		for _, e := range list {
			if count[[2]int{op, int(e)}] < 2 {
				t.Errorf("call %d came to %d only %d times", op, e, count[[2]int{op, int(e)}])
			}
		}
	}
}

// TestRowsOfCalls: whatever row of calls, with copies among them, kernels are what their models are, and right; a call changes only what its thread alters, itself, and what it makes.
func TestRowsOfCalls(t *testing.T) {
	d, count := dice(9), tally{}
	for row := range 60 {
		k, _ := kern.New(api.Boot{Root: 1, Console: 2, Thread: 3})
		all := []*pair{{k, newModel()}}
		if row%6 > 0 {
			all[0].furnish(t)
		}
		for step := range 400 {
			p := all[d.roll(len(all))]
			if d.roll(60) == 0 {
				if len(all) < 3 {
					all = append(all, p.copied())
				} else {
					all[d.roll(3)] = p.copied()
				}
				continue
			}
			before := p.m.all
			p.m = p.m.copied()
			what, by, wrong := p.step(&d, 100+step, count)
			if wrong {
				t.Fatalf("row %d, step %d: %s", row, step, what)
			}
			if wrong := wrongs(p.m.all, 1); len(wrong) > 0 {
				t.Fatalf("row %d, step %d: %s: %v", row, step, what, wrong)
			}
			if wrong := trespass(by, before, p.m.all); wrong != "" {
				t.Fatalf("row %d, step %d: %s: %s", row, step, what, wrong)
			}
			for i, p := range all {
				if wrong := p.differs() + p.drawnUnlike(600); wrong != "" {
					t.Fatalf("row %d, step %d: %s: kernel %d: %s", row, step, what, i, wrong)
				}
			}
		}
	}
	enough(t, count)
}
