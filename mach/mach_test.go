package mach_test

import (
	"slices"
	"strings"
	"testing"

	"gatehouse/api"
	"gatehouse/kern"
	"gatehouse/mach"
)

// programmed answers a furnished kernel with a program at the address 0.
func programmed(t *testing.T, text string) *kern.Kernel {
	t.Helper()
	k := furnished(t)
	k.Fill(10, built(t, text)+strings.Repeat("\x00", 64))
	return k
}

// runs answers picks of a thread.
func runs(thread, n int) []api.Pick {
	return slices.Repeat([]api.Pick{{Thread: thread}}, n)
}

// came tells whether the events are these.
func came(t *testing.T, got []api.Event, want ...api.Event) {
	t.Helper()
	if !slices.Equal(got, want) {
		t.Errorf("%+v, not %+v", got, want)
	}
}

// TestExamples: those of the chapter.
func TestExamples(t *testing.T) {
	m := mach.New(programmed(t, "set r0 29\nsys\nhalt"))
	m.Run([]api.Pick{{Kind: api.PickTick}, {Kind: api.PickTick}, {Kind: api.PickTick}})
	came(t, m.Run(runs(30, 3)), api.Event{Thread: 30, What: api.Ran}, event(30, 29, api.OK), api.Event{Thread: 30, What: api.Halted})
	o, _ := m.Kernel().Object(30)
	if want := (api.State{R: [16]uint64{0, 3}, Pc: 8}); o.State != want || o.Does != api.Stops {
		t.Error(o.State, o.Does)
	}

	m = mach.New(programmed(t, "set r0 25\nsys"))
	came(t, m.Run(runs(30, 2)), api.Event{Thread: 30}, event(30, 25, api.ErrAgain))
	o, _ = m.Kernel().Object(30)
	if want := (api.State{R: [16]uint64{10}, Pc: 8}); o.State != want || o.Does != api.Runs {
		t.Error(o.State, o.Does)
	}
}

// TestStops: what isn't Ran or Called stops the thread, and changes nothing else.
func TestStops(t *testing.T) {
	for _, x := range []struct {
		what  int
		bytes string
	}{
		{api.Halted, built(t, "halt")}, {api.Halted, "\x00\x00\x00\x00"}, {api.Broke, "\xff\xff\xff\xff"}, {api.Broke, "\x02\x01\x00\x00"},
		{api.Faulted, ""}, {api.Faulted, "\x02\x00\x00"}, {api.Faulted, built(t, "load r1 r2 0")}, {api.Faulted, built(t, "keep r1 r3 0")},
		{api.Faulted, built(t, "push r1 r4 0")}, {api.Faulted, built(t, "pull r1 r5 0")},
	} {
		k := furnished(t)
		k.Fill(10, x.bytes)
		st := api.State{R: [16]uint64{1, 2, nowhere, short, short - 4, last}}
		k.SetState(30, st)
		ought := k.Copy()
		ought.Do(30, api.Call{Op: api.CallHalt}, 0)
		came(t, mach.New(k).Run(runs(30, 1)), api.Event{Thread: 30, What: x.what})
		if wrong := unlike(k, ought); wrong != "" {
			t.Errorf("%q: %s", x.bytes, wrong)
		}
		came(t, mach.New(k).Run(runs(30, 1)), api.Event{Thread: 30, What: api.Idle, Err: api.ErrDead})
	}
}

// TestOwnMemory: a step is done in the thread's own address space, by what its label lets it.
func TestOwnMemory(t *testing.T) {
	k := programmed(t, "pull r1 r2 0\npush r3 r2 8\nhalt")
	k.Fill(12, strings.Repeat("\x07", 256))
	for _, thread := range []int{30, 31, 32} {
		k.SetState(thread, api.State{R: [16]uint64{2: secret, 3: 5}})
	}
	came(t, mach.New(k).Run(slices.Concat(runs(30, 2), runs(31, 3), runs(32, 3))),
		api.Event{Thread: 30, What: api.Faulted}, api.Event{Thread: 30, What: api.Idle, Err: api.ErrDead},
		api.Event{Thread: 31}, api.Event{Thread: 31}, api.Event{Thread: 31, What: api.Halted},
		api.Event{Thread: 32}, api.Event{Thread: 32}, api.Event{Thread: 32, What: api.Halted})
	if o, _ := k.Object(31); o.State.R[1] != 0x0707070707070707 || o.State.Pc != 8 {
		t.Error(o.State)
	}
	bytesOf(t, k, 12, 6, "\x07\x07\x05\x00\x00\x00\x00\x00\x00\x00\x07\x07")

	k = furnished(t)
	k.Do(30, api.Call{Op: api.CallAim, Q: at(0, 0)}, 0)
	came(t, mach.New(k).Run(runs(30, 1)), api.Event{Thread: 30, What: api.Faulted})
	k.SetState(32, api.State{Pc: data}) // it may be written, but not run
	came(t, mach.New(k).Run(runs(32, 1)), api.Event{Thread: 32, What: api.Faulted})
	k.SetState(3, api.State{Pc: data - 2}) // half of it may be run
	came(t, mach.New(k).Run(runs(3, 1)), api.Event{Thread: 3, What: api.Faulted})
}

func TestIdle(t *testing.T) {
	k := furnished(t)
	k.Do(30, api.Call{Op: api.CallWait, P: at(1, 11)}, 0)
	k.Do(31, api.Call{Op: api.CallHalt}, 0)
	ought := k.Copy()
	m := mach.New(k)
	for _, thread := range []int{30, 31, 1, 2, 5, 10, 15, 16, 20, 33, 0, -1, least, highest, api.MaxId} {
		came(t, m.Run(runs(thread, 1)), api.Event{Thread: thread, What: api.Idle, Err: api.ErrDead})
	}
	if wrong := unlike(m.Kernel(), ought); wrong != "" {
		t.Error(wrong)
	}
	k.Do(3, api.Call{Op: api.CallPost, P: at(1, 30), A: 1}, 0)
	came(t, m.Run(runs(30, 1)), event(30, 0, api.ErrArg))
}

// TestPicks: ticks, what is put into devices, and kinds that are none.
func TestPicks(t *testing.T) {
	k := furnished(t)
	m := mach.New(k)
	came(t, m.Run([]api.Pick{
		{Kind: api.PickTick}, {Kind: api.PickTick, Thread: 30, Draw: 7, S: "x"},
		{Kind: api.PickPut, Thread: 2, S: "ab"}, {Kind: api.PickPut, Thread: 2, Draw: 50, S: ""}, {Kind: api.PickPut, Thread: 2, S: "c"},
		{Kind: api.PickPut, Thread: 2, S: strings.Repeat("x", 4094)}, {Kind: api.PickPut, Thread: 30, S: "x"}, {Kind: api.PickPut, Thread: 99, S: "x"}, {Kind: api.PickPut, Thread: least},
	}),
		api.Event{}, api.Event{},
		api.Event{Thread: 2}, api.Event{Thread: 2}, api.Event{Thread: 2},
		api.Event{Thread: 2, Err: api.ErrFull}, api.Event{Thread: 30, Err: api.ErrKind}, api.Event{Thread: 99, Err: api.ErrNone}, api.Event{Thread: least, Err: api.ErrNone})
	ought := furnished(t)
	ought.Tick()
	ought.Tick()
	ought.Put(2, "abc")
	if wrong := unlike(m.Kernel(), ought); wrong != "" {
		t.Error(wrong)
	}
	for _, kind := range []int{-1, 3, 4, 5, least, highest} {
		for _, thread := range []int{30, 2, 99} {
			came(t, m.Run([]api.Pick{{Kind: kind, Thread: thread, Draw: 50, S: "x"}}), api.Event{Thread: thread, What: api.Idle, Err: api.ErrArg})
		}
	}
	if wrong := unlike(m.Kernel(), ought); wrong != "" {
		t.Error(wrong)
	}
}

func TestNil(t *testing.T) {
	m := mach.New(nil)
	if m != nil || m.Kernel() != nil || m.Copy() != nil || len(m.Run(nil)) != 0 {
		t.Error("something of nil")
	}
	none := api.Event{What: api.Idle, Err: api.ErrNone}
	picks := []api.Pick{{Thread: 3}, {Kind: api.PickTick}, {Kind: api.PickPut, Thread: 2}, {Kind: 9, Thread: 4}}
	for _, p := range picks {
		came(t, []api.Event{m.Step(p)}, none)
	}
	came(t, m.Run(picks), none, none, none, none)
}

// TestKept: the kernel is the machine's own, what Kernel and Copy answer isn't.
func TestKept(t *testing.T) {
	k := programmed(t, "add r1 r1 r2\npush r1 r3 0\ngo -3")
	k.SetState(30, api.State{R: [16]uint64{2: 3, 3: data}})
	m := mach.New(k)
	picks := append(runs(30, 5), api.Pick{Kind: api.PickTick}, api.Pick{Kind: api.PickPut, Thread: 2, S: "in"})
	before, same, picked := m.Kernel(), m.Copy(), slices.Clone(picks)
	if len(m.Run(nil)) != 0 || unlike(before, k) != "" {
		t.Error("something came of no picks")
	}
	events := m.Run(picks)
	if unlike(m.Kernel(), k) != "" {
		t.Error("the kernel isn't the machine's own:", unlike(m.Kernel(), k))
	}
	if unlike(before, k) == "" || unlike(before, same.Kernel()) != "" {
		t.Error("a copy changed with what it was made of")
	}
	for i, p := range picks {
		if got := same.Step(p); got != events[i] {
			t.Error(i, got, events[i])
		}
	}
	if wrong := unlike(same.Kernel(), k); wrong != "" {
		t.Error("a copy goes another way:", wrong)
	}
	same.Kernel().Tick()
	same.Run(runs(30, 1))
	m.Kernel().Tick()
	if unlike(m.Kernel(), k) != "" || unlike(same.Kernel(), k) == "" {
		t.Error("copies aren't apart")
	}
	if !slices.Equal(picks, picked) {
		t.Error("picks were changed")
	}
	bytesOf(t, k, 11, 0, "\x06\x00")
}
