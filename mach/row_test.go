package mach_test

import (
	"fmt"
	"slices"
	"testing"

	"gatehouse/api"
	"gatehouse/isa"
	"gatehouse/kern"
	"gatehouse/label"
	"gatehouse/mach"
)

// These answer what registers may be: mostly what means something, seldom what can't be.

// ref answers an object as an entry of a container, mostly of one of these kinds.
func (d *dice) ref(k *kern.Kernel, kinds ...int) api.Ref {
	if d.roll(25) == 0 {
		return at(pick(d, 0, -1, 2, 99, least, highest), pick(d, 0, 11, -1, 99, least, highest))
	}
	var list, any []api.Ref
	for _, in := range k.Ids() {
		box, _ := k.Object(in)
		for _, id := range box.List {
			o, _ := k.Object(id)
			any = append(any, at(in, id))
			if slices.Contains(kinds, o.Kind) {
				list = append(list, at(in, id))
			}
		}
	}
	if len(list) == 0 || d.roll(12) == 0 {
		return pick(d, any...)
	}
	return pick(d, list...)
}

// box answers the number of a container.
func (d *dice) box(k *kern.Kernel) int {
	return pick(d, 1, 1, 5, 6, d.ref(k, api.Container).Id)
}

// kinds answers of which kinds P mostly is.
func kinds(op int) []int {
	switch op {
	case api.CallLink:
		return []int{api.Segment, api.Gate}
	case api.CallRead, api.CallWrite, api.CallSize, api.CallResize, api.CallClone, api.CallWait, api.CallWake:
		return []int{api.Segment}
	case api.CallMap, api.CallUnmap, api.CallMapped:
		return []int{api.Space}
	case api.CallPost:
		return []int{api.Thread}
	case api.CallSay, api.CallHear:
		return []int{api.Device}
	case api.CallEnter:
		return []int{api.Gate}
	case api.CallShift:
		return []int{api.Container}
	}
	return []int{api.Container, api.Segment, api.Space, api.Thread, api.Gate, api.Device}
}

func (d *dice) small() int {
	if d.roll(20) == 0 {
		return pick(d, least, -1, 4096, 4097, highest, api.MaxQuota+1)
	}
	return pick(d, 0, 0, 8, d.roll(20), d.roll(130))
}

// labelAddr answers where a label stands, mostly.
func (d *dice) labelAddr() uint64 {
	switch d.roll(12) {
	case 0:
		return pick[uint64](d, nowhere, shut, secret, shorts-1, ends-2, last, data, beyond)
	case 1:
		return labelAt(isNone + d.roll(len(written())-isNone))
	case 2, 3, 4:
		return labelAt(d.roll(isNone))
	}
	return 0
}

// span answers an address, and how many bytes from there on.
func (d *dice) span() (addr, many uint64) {
	many = pick(d, 0, 1, 8, 40, uint64(d.roll(150)), uint64(d.roll(4097)))
	if d.roll(10) == 0 {
		many = pick[uint64](d, 4096, 4097, last, 1<<63)
	}
	switch d.roll(10) {
	case 0:
		return pick[uint64](d, nowhere, shut, last, beyond, codes, labels, farEnd, 0), many
	case 1:
		return pick[uint64](d, more, again, twice, short) + uint64(d.roll(100)), many
	case 2, 3:
		return secret + uint64(d.roll(100)), many
	}
	return data + uint64(d.roll(150)), many
}

// asks answers registers of a call.
func (d *dice) asks(k *kern.Kernel) api.State {
	c := api.Call{Op: 1 + d.roll(32)}
	switch d.roll(12) {
	case 0:
		c.Op = pick(d, 0, 33, -1, least, highest, 1<<32+api.CallNow)
	case 1, 2, 3, 4:
		c.Op = pick(d, api.CallRead, api.CallHear, api.CallList, api.CallLook, api.CallSelf, api.CallMapped, api.CallWrite, api.CallSay)
	case 5:
		c.Op = pick(d, api.CallTake, api.CallPost, api.CallWait, api.CallWake, api.CallEnter, api.CallRise)
	}
	if c.Op == api.CallHalt && d.roll(4) > 0 {
		c.Op = api.CallNow
	}
	c.P, c.Q = d.ref(k, kinds(c.Op)...), d.ref(k, api.Space)
	c.A, c.B, c.C = d.small(), d.small(), d.small()
	switch c.Op {
	case api.CallBox, api.CallCell, api.CallSpace, api.CallFlow, api.CallDoor, api.CallList:
		c.P.In, c.A = d.box(k), c.A+1
	case api.CallClone, api.CallLink:
		c.Q.In, c.A = d.box(k), c.A+128
	case api.CallDrop:
		if d.roll(3) > 0 { // so that there is something left
			c.P.Id += 1
		}
	case api.CallMap:
		c.Q, c.A, c.B, c.C = d.ref(k, api.Segment), c.A+520, 1+d.roll(3), d.roll(3)
	case api.CallUnmap:
		c.A += 520
	case api.CallAim:
		if d.roll(4) > 0 {
			c.Q, c.B = at(1, 15), 4*d.roll(900)
		}
	}
	addr, many := d.span()
	st := regs(c, d.labelAddr(), d.labelAddr(), addr, many)
	st.Pc = uint64(4 * d.roll(1000))
	return st
}

// trespass tells what a step of a thread has changed that it may not: but for what it alters, itself, and what it makes, that may be what lies in what it drops, and who waits.
func trespass(before, after *kern.Kernel, e api.Event) string {
	t, _ := before.Object(e.Thread)
	made := 0
	for _, id := range after.Ids() {
		if _, was := before.Object(id); !was {
			made++
		}
	}
	if made > 1 {
		return fmt.Sprint(made, " made")
	}
	for _, id := range before.Ids() {
		o, _ := before.Object(id)
		now, there := after.Object(id)
		if id == e.Thread || label.Alters(t.Label, o.Label) || !there && e.Op == api.CallDrop {
			continue
		}
		if e.Op == api.CallDrop {
			o.Links = now.Links
		}
		if (e.Op == api.CallDrop || e.Op == api.CallWake) && o.Does == api.Waits && now.Does == api.Runs {
			o.Does, o.Seg, o.Off = api.Runs, 0, 0
		}
		if !sameObject(o, now) {
			return fmt.Sprintf("%+v changed to %+v", o, now)
		}
	}
	return ""
}

// tally counts what calls of each Op came to.
type tally map[[2]int]int

// TestRowsOfCalls: whatever threads ask by sys, it is what the chapter says, and changes only what they may.
func TestRowsOfCalls(t *testing.T) {
	d, count := dice(10), tally{}
	for row := range 60 {
		k := furnished(t)
		k.Put(2, "what was put in")
		for step := range 100 {
			thread := pick(&d, 3, 30, 30, 31, 32, d.ref(k, api.Thread).Id)
			if d.roll(40) == 0 {
				k.Put(2, "more")
			}
			k.SetState(thread, d.asks(k))
			p := api.Pick{Thread: thread, Draw: pick(&d, 100+step, 100+step, 100+step, 20, 16, 0, -1)}
			before, ought := k.Copy(), k.Copy()
			want := model(ought, p)
			got := mach.New(k).Step(p)
			if wrong := unlike(k, ought); got != want || wrong != "" {
				o, _ := before.Object(thread)
				t.Fatalf("row %d, step %d: %+v: %+v, not %+v: %s", row, step, o.State, got, want, wrong)
			}
			if wrong := trespass(before, k, got); wrong != "" {
				t.Fatalf("row %d, step %d: %+v: %s", row, step, got, wrong)
			}
			if got.What == api.Called {
				count[[2]int{got.Op, int(got.Err)}]++
			}
		}
	}
	enough(t, count)
}

// enough tells whether calls of each Op came to what they must have, so that the rows say something of all.
func enough(t *testing.T, count tally) {
	t.Helper()
	for op := 1; op <= 32; op++ {
		for _, e := range []api.Errno{api.OK, api.ErrFault, api.ErrForm} {
			if count[[2]int{op, int(e)}] < 2 {
				t.Errorf("call %d came to %d only %d times", op, e, count[[2]int{op, int(e)}])
			}
		}
	}
	for _, op := range []int{12, 13, 14, 15, 21, 27, 28, 31} {
		if count[[2]int{op, int(api.ErrArg)}] < 2 {
			t.Errorf("call %d came to ErrArg only %d times", op, count[[2]int{op, int(api.ErrArg)}])
		}
	}
}

// instruction answers bytes of an instruction, seldom of none.
func (d *dice) instruction() string {
	c := api.Code{Op: pick(d, api.OpSys, api.OpSys, api.OpSys, d.roll(27), d.roll(27), d.roll(27)), A: d.roll(16), B: d.roll(16), C: d.roll(16), N: d.roll(12)}
	if c.Op == api.OpHalt && d.roll(5) > 0 {
		c.Op = api.OpNop
	}
	for _, fewer := range []api.Code{c, {Op: c.Op, A: c.A, B: c.B, C: c.C}, {Op: c.Op, A: c.A, B: c.B, N: c.N}, {Op: c.Op, A: c.A, B: c.B}, {Op: c.Op, A: c.A, N: c.N}, {Op: c.Op, N: c.N}, {Op: c.Op}} {
		if s, e := isa.Encode(fewer); e == api.OK && d.roll(60) > 0 {
			return s
		}
	}
	return string([]byte{byte(d.roll(256)), byte(d.roll(256)), byte(d.roll(256)), byte(d.roll(256))})
}

// TestWhateverBytes: whatever bytes are stepped through, in whatever order threads are picked, machines go the way of the chapter, and copies the same way.
func TestWhateverBytes(t *testing.T) {
	d, did := dice(3), map[int]int{}
	for row := range 40 {
		k := furnished(t)
		program := ""
		for range 1024 {
			program += d.instruction()
		}
		k.Fill(10, program)
		for _, thread := range []int{3, 30, 31, 32} {
			k.SetState(thread, d.asks(k))
		}
		ought := k.Copy()
		m := mach.New(k)
		other := m.Copy()
		var picks []api.Pick
		for step := range 150 {
			picks = append(picks, api.Pick{Kind: pick(&d, 0, 0, 0, 0, 0, 0, 0, 0, 0, 1, 2, d.roll(9)-3), Thread: pick(&d, 3, 30, 31, 32, 2, 99, 100+d.roll(step+1)), Draw: 100 + step, S: "ab"})
		}
		for i, got := range m.Run(picks) {
			if want := model(ought, picks[i]); got != want {
				t.Fatalf("row %d, step %d: %+v: %+v, not %+v", row, i, picks[i], got, want)
			}
			did[got.What]++
			if again := other.Step(picks[i]); again != got {
				t.Fatalf("row %d, step %d: %+v: %+v, and of a copy %+v", row, i, picks[i], got, again)
			}
		}
		if wrong := unlike(m.Kernel(), ought) + unlike(other.Kernel(), ought); wrong != "" {
			t.Fatalf("row %d: %s", row, wrong)
		}
	}
	for what, least := range []int{500, 100, 3, 20, 3, 500} {
		if did[what] < least {
			t.Errorf("only %d events are %d", did[what], what)
		}
	}
}
