package kern_test

import (
	"slices"
	"testing"

	"gatehouse/api"
	"gatehouse/kern"
)

func TestLink(t *testing.T) {
	k := peopled(t)
	does(t, k, 3, api.Call{Op: api.CallLink, P: at(1, 10), Q: at(5, 77), A: 9, L: of("{J}")}, 0, api.Told{})
	if o, box := object(t, k, 10), object(t, k, 5); o.Links != 2 || !same(box.List, []int{16, 32, 10}) || box.Used != 151 {
		t.Error(o, box)
	}
	does(t, k, 3, api.Call{Op: api.CallWrite, P: at(5, 10), S: "a"}, 0, api.Told{})
	does(t, k, 30, api.Call{Op: api.CallRead, P: at(1, 10), B: 1}, 0, api.Told{S: "a"})
	does(t, k, 3, api.Call{Op: api.CallLink, P: at(1, 15), Q: at(5, 0)}, 0, api.Told{})
	// It lives on as long as anything links to it.
	does(t, k, 3, api.Call{Op: api.CallDrop, P: at(1, 10)}, 0, api.Told{})
	does(t, k, 3, api.Call{Op: api.CallRead, P: at(5, 10), B: 1}, 0, api.Told{S: "a"})
	refuses(t, k, 3, api.Call{Op: api.CallRead, P: at(1, 10), B: 1}, 0, api.ErrNone)
	right(t, k)
	does(t, k, 3, api.Call{Op: api.CallDrop, P: at(1, 5)}, 0, api.Told{})
	if _, ok := k.Object(10); ok {
		t.Error("10 is still there")
	}
	object(t, k, 15)
	right(t, k)
}

func TestLinkErrors(t *testing.T) {
	k := peopled(t)
	makes(t, k, 3, api.Call{Op: api.CallBox, P: at(1, 0), L: of("{1}"), A: 99}, 50)
	makes(t, k, 3, api.Call{Op: api.CallCell, P: at(5, 0), L: of("{2}"), A: 10}, 51)
	makes(t, k, 3, api.Call{Op: api.CallBox, P: at(1, 0), L: of("{1 20:2}"), A: 900}, 52)
	for _, q := range []int{1, 5, 99} {
		for _, r := range unnamed() {
			refuses(t, k, 30, api.Call{Op: api.CallLink, P: r, Q: at(q, 0)}, 0, api.ErrNone)
		}
		refuses(t, k, 30, api.Call{Op: api.CallLink, P: at(1, 11), Q: at(q, 0)}, 0, api.ErrLabel) // neither sees
		refuses(t, k, 30, api.Call{Op: api.CallLink, P: at(1, 12), Q: at(q, 0)}, 0, api.ErrLabel) // sees, but doesn't alter
		refuses(t, k, 31, api.Call{Op: api.CallLink, P: at(1, 10), Q: at(q, 0)}, 0, api.ErrLabel)
		refuses(t, k, 30, api.Call{Op: api.CallLink, P: at(1, 31), Q: at(q, 0)}, 0, api.ErrLabel) // ahead of its kind
	}
	for _, n := range noBoxes() {
		refuses(t, k, 30, api.Call{Op: api.CallLink, P: at(1, 10), Q: at(n, 0)}, 0, api.ErrNone)
		refuses(t, k, 30, api.Call{Op: api.CallLink, P: at(1, 30), Q: at(n, 0)}, 0, api.ErrNone) // ahead of its kind
	}
	allRefused(t, k, api.CallLink, []refusal{
		{31, api.Call{P: at(1, 11), Q: at(5, 0)}, 0, api.ErrLabel}, // it doesn't alter that box
		{3, api.Call{P: at(1, 10), Q: at(6, 0)}, 0, api.ErrLabel},  // less tainted than that box
		{3, api.Call{P: at(1, 12), Q: at(52, 0)}, 0, api.ErrLabel},
		{3, api.Call{P: at(1, 30), Q: at(6, 0)}, 0, api.ErrLabel}, // ahead of its kind
		{3, api.Call{P: at(1, 2), Q: at(5, 0)}, 0, api.ErrKind},
		{3, api.Call{P: at(1, 5), Q: at(5, 0)}, 0, api.ErrKind},
		{3, api.Call{P: at(1, 13), Q: at(5, 0)}, 0, api.ErrKind},
		{3, api.Call{P: at(1, 30), Q: at(5, 0)}, 0, api.ErrKind},
		{3, api.Call{P: at(1, 3), Q: at(1, 0)}, 0, api.ErrKind}, // ahead of that it is there already
		{3, api.Call{P: at(1, 10), Q: at(1, 0)}, 0, api.ErrArg},
		{3, api.Call{P: at(5, 16), Q: at(5, 0)}, 0, api.ErrArg},
		{3, api.Call{P: at(1, 10), Q: at(50, 0)}, 0, api.ErrQuota},
	})
	does(t, k, 3, api.Call{Op: api.CallClear, M: of("{1 20:3}")}, 0, api.Told{})
	refuses(t, k, 3, api.Call{Op: api.CallLink, P: at(5, 51), Q: at(1, 0)}, 0, api.ErrLabel) // above its clearance
	right(t, k)
}

func TestDrop(t *testing.T) {
	k := peopled(t)
	// It doesn't alter what it drops, but what it drops it from.
	does(t, k, 30, api.Call{Op: api.CallDrop, P: at(1, 11), A: 9}, 0, api.Told{})
	does(t, k, 30, api.Call{Op: api.CallDrop, P: at(1, 6)}, 0, api.Told{})
	does(t, k, 30, api.Call{Op: api.CallDrop, P: at(1, 5)}, 0, api.Told{})
	if ids := k.Ids(); !slices.Equal(ids, []int{1, 2, 3, 10, 12, 13, 14, 15, 30, 31}) {
		t.Error(ids)
	}
	for _, id := range []int{5, 6, 11, 16, 17, 32} {
		if o, ok := k.Object(id); ok || !same(o, api.Object{}) {
			t.Error(id, o)
		}
		if !k.Drawn(id) {
			t.Error("not drawn any more:", id)
		}
		errno(t, "Put", k.Put(id, ""), api.ErrNone)
		errno(t, "Fill", k.Fill(id, ""), api.ErrNone)
		errno(t, "SetState", k.SetState(id, api.State{}), api.ErrNone)
		refuses(t, k, id, api.Call{Op: api.CallNow}, 0, api.ErrDead)
	}
	right(t, k)
}

func TestDropErrors(t *testing.T) {
	k := peopled(t)
	for _, r := range unnamed() {
		refuses(t, k, 30, api.Call{Op: api.CallDrop, P: r}, 0, api.ErrNone)
	}
	for _, id := range []int{2, 10, 11, 31, 5} {
		refuses(t, k, 31, api.Call{Op: api.CallDrop, P: at(1, id)}, 0, api.ErrLabel)
	}
	does(t, k, 31, api.Call{Op: api.CallDrop, P: at(6, 17)}, 0, api.Told{})
	refuses(t, k, 31, api.Call{Op: api.CallDrop, P: at(6, 17)}, 0, api.ErrNone)
}

// TestDropWakes: who waits at a segment that is gone runs again; who waits elsewhere doesn't.
func TestDropWakes(t *testing.T) {
	k := peopled(t)
	does(t, k, 3, api.Call{Op: api.CallResize, P: at(5, 16), A: 16}, 0, api.Told{})
	does(t, k, 3, api.Call{Op: api.CallLink, P: at(1, 10), Q: at(5, 0)}, 0, api.Told{})
	does(t, k, 30, api.Call{Op: api.CallWait, P: at(5, 16)}, 0, api.Told{})
	does(t, k, 31, api.Call{Op: api.CallWait, P: at(5, 16), A: 7}, 0, api.Told{})
	does(t, k, 32, api.Call{Op: api.CallWait, P: at(5, 10)}, 0, api.Told{})
	makes(t, k, 3, api.Call{Op: api.CallFlow, P: at(1, 0), L: of("{1}"), M: of("{2}"), A: 1}, 50)
	does(t, k, 50, api.Call{Op: api.CallWait, P: at(1, 10)}, 0, api.Told{})
	makes(t, k, 3, api.Call{Op: api.CallFlow, P: at(1, 0), L: of("{1}"), M: of("{2}"), A: 1}, 51)
	does(t, k, 51, api.Call{Op: api.CallWait, P: at(5, 10)}, 0, api.Told{})
	doing(t, k, api.Waits, 30, 31, 32, 50, 51)
	does(t, k, 3, api.Call{Op: api.CallDrop, P: at(1, 5)}, 0, api.Told{})
	doing(t, k, api.Runs, 30, 31)
	doing(t, k, api.Waits, 50, 51) // 10 is still in the root
	right(t, k)
	does(t, k, 3, api.Call{Op: api.CallDrop, P: at(1, 10)}, 0, api.Told{})
	doing(t, k, api.Runs, 3, 30, 31, 50, 51)
	right(t, k)
}

// TestDropOfWaiting: a thread that is gone is at no place any more, and has no alerts.
func TestDropOfWaiting(t *testing.T) {
	k := peopled(t)
	does(t, k, 30, api.Call{Op: api.CallWait, P: at(1, 10)}, 0, api.Told{})
	does(t, k, 3, api.Call{Op: api.CallPost, P: at(1, 31), A: 5}, 0, api.Told{})
	does(t, k, 3, api.Call{Op: api.CallDrop, P: at(1, 30)}, 0, api.Told{})
	does(t, k, 3, api.Call{Op: api.CallDrop, P: at(1, 31)}, 0, api.Told{})
	does(t, k, 3, api.Call{Op: api.CallWake, P: at(1, 10)}, 0, api.Told{})
	if same(dump(k), dump(peopled(t))) || len(k.Ids()) != 14 {
		t.Error(k.Ids())
	}
	right(t, k)
}

// TestDropOfItself: a thread may drop itself, and what it is in.
func TestDropOfItself(t *testing.T) {
	for _, r := range []api.Ref{at(1, 3), at(1, 5)} {
		k := peopled(t)
		thread := 3
		if r.Id == 5 {
			thread = 32
		}
		does(t, k, thread, api.Call{Op: api.CallDrop, P: r}, 0, api.Told{})
		if _, ok := k.Object(thread); ok {
			t.Error("still there")
		}
		refuses(t, k, thread, api.Call{Op: api.CallNow}, 0, api.ErrDead)
		right(t, k)
	}
}

func TestShift(t *testing.T) {
	k := peopled(t)
	quotas := func(root, box, used int) {
		t.Helper()
		r, b := object(t, k, 1), object(t, k, 5)
		if r.Used != root || b.Quota != box || b.Used != used {
			t.Error(r, b)
		}
	}
	quotas(1807, 1000, 51)
	does(t, k, 30, api.Call{Op: api.CallShift, P: at(1, 5), A: 50}, 0, api.Told{})
	quotas(1857, 1050, 51)
	does(t, k, 30, api.Call{Op: api.CallShift, P: at(1, 5), A: -999}, 0, api.Told{})
	quotas(858, 51, 51)
	does(t, k, 30, api.Call{Op: api.CallShift, P: at(1, 5)}, 0, api.Told{})
	refuses(t, k, 30, api.Call{Op: api.CallShift, P: at(1, 5), A: -1}, 0, api.ErrQuota)
	refuses(t, k, 30, api.Call{Op: api.CallShift, P: at(1, 5), A: api.MaxQuota - 857}, 0, api.ErrQuota)
	right(t, k)
}

func TestShiftErrors(t *testing.T) {
	k := peopled(t)
	for _, a := range []int{1, least} {
		for _, r := range unnamed() {
			refuses(t, k, 30, api.Call{Op: api.CallShift, P: r, A: a}, 0, api.ErrNone)
		}
		allRefused(t, k, api.CallShift, []refusal{
			{31, api.Call{P: at(1, 5), A: a}, 0, api.ErrLabel},  // neither
			{31, api.Call{P: at(1, 6), A: a}, 0, api.ErrLabel},  // not where it is
			{30, api.Call{P: at(1, 6), A: a}, 0, api.ErrLabel},  // not the box
			{30, api.Call{P: at(1, 12), A: a}, 0, api.ErrLabel}, // ahead of its kind
			{3, api.Call{P: at(1, 10), A: a}, 0, api.ErrKind},
			{3, api.Call{P: at(1, 2), A: a}, 0, api.ErrKind},
		})
	}
	for _, a := range []int{api.MaxQuota + 1, -api.MaxQuota - 1, least, highest} {
		refuses(t, k, 3, api.Call{Op: api.CallShift, P: at(1, 5), A: a}, 0, api.ErrArg)
	}
	for _, a := range []int{api.MaxQuota, -api.MaxQuota, -950} {
		refuses(t, k, 3, api.Call{Op: api.CallShift, P: at(1, 5), A: a}, 0, api.ErrQuota)
	}
}

func TestList(t *testing.T) {
	k := peopled(t)
	does(t, k, 30, api.Call{Op: api.CallList, P: at(1, 99)}, 0, api.Told{List: []int{2, 3, 5, 6, 10, 11, 12, 13, 14, 15, 30, 31}})
	does(t, k, 30, api.Call{Op: api.CallList, P: at(5, 0)}, 0, api.Told{List: []int{16, 32}})
	does(t, k, 31, api.Call{Op: api.CallList, P: at(6, 0)}, 0, api.Told{List: []int{17}})
	for _, n := range noBoxes() {
		refuses(t, k, 30, api.Call{Op: api.CallList, P: at(n, 10)}, 0, api.ErrNone)
	}
}

func TestLook(t *testing.T) {
	k := peopled(t)
	looks := func(k *kern.Kernel, thread int, r api.Ref, kind int, l string, quota int) {
		t.Helper()
		does(t, k, thread, api.Call{Op: api.CallLook, P: r}, 0, api.Told{N: kind, L: of(l), List: []int{quota}})
	}
	looks(k, 30, at(1, 2), api.Device, "{1}", 1)
	looks(k, 30, at(1, 5), api.Container, "{1}", 1000)
	looks(k, 30, at(1, 10), api.Segment, "{1}", 100)
	looks(k, 30, at(1, 12), api.Segment, "{1 20:0}", 100)
	looks(k, 30, at(1, 13), api.Space, "{1}", 1)
	looks(k, 30, at(1, 15), api.Gate, "{1 20:*}", 1)
	looks(k, 30, at(1, 3), api.Thread, "{1 20:*}", 1)
	looks(k, 31, at(6, 17), api.Segment, "{1 20:3}", 50)
	looks(k, 3, at(1, 11), api.Segment, "{1 20:3}", 100)
	for _, r := range unnamed() {
		refuses(t, k, 30, api.Call{Op: api.CallLook, P: r}, 0, api.ErrNone)
	}
	for _, id := range []int{6, 11, 14, 31} {
		refuses(t, k, 30, api.Call{Op: api.CallLook, P: at(1, id)}, 0, api.ErrLabel)
	}
}
