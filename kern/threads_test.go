package kern_test

import (
	"testing"

	"gatehouse/api"
	"gatehouse/kern"
)

// labelled tells whether a thread has this label and this clearance.
func labelled(t *testing.T, k *kern.Kernel, id int, l, clearance string) {
	t.Helper()
	o := object(t, k, id)
	if !same(o.Label, of(l)) || !same(o.Clear, of(clearance)) {
		t.Errorf("%d has %+v, %+v, not %s, %s", id, o.Label, o.Clear, l, clearance)
	}
}

func TestDead(t *testing.T) {
	k := peopled(t)
	does(t, k, 30, api.Call{Op: api.CallWait, P: at(1, 10)}, 0, api.Told{})
	does(t, k, 32, api.Call{Op: api.CallHalt}, 0, api.Told{})
	doing(t, k, api.Waits, 30)
	doing(t, k, api.Stops, 32)
	for _, id := range append(wrongNumbers(), 1, 2, 4, 5, 10, 13, 15, 20, 30, 32, 99) {
		for op := -1; op <= 33; op++ {
			refuses(t, k, id, api.Call{Op: op, P: at(1, 10)}, 50, api.ErrDead)
		}
		refuses(t, k, id, api.Call{Op: highest}, 50, api.ErrDead)
	}
	for _, op := range []int{0, -1, 33, 34, least, highest} {
		refuses(t, k, 3, api.Call{Op: op, P: at(1, 10), L: of("{1}"), A: 1}, 50, api.ErrArg)
	}
}

func TestOwn(t *testing.T) {
	k := begun(t)
	makes(t, k, 3, api.Call{Op: api.CallOwn}, 20)
	labelled(t, k, 3, "{1 20:*}", "{3}")
	does(t, k, 3, api.Call{Op: api.CallClear, M: of("{2 20:3}")}, 0, api.Told{})
	makes(t, k, 3, api.Call{Op: api.CallOwn}, api.MaxId)
	labelled(t, k, 3, "{1 20:* 2305843009213693951:*}", "{2 20:3 2305843009213693951:3}")
	does(t, k, 3, api.Call{Op: api.CallClear, M: of("{2 20:3 30:1 2305843009213693951:3}")}, 0, api.Told{})
	for _, n := range wrongNumbers() {
		refuses(t, k, 3, api.Call{Op: api.CallOwn}, n, api.ErrArg)
	}
	for _, n := range []int{1, 2, 3, 20, 30, api.MaxId} { // 30 is in its clearance, not drawn
		refuses(t, k, 3, api.Call{Op: api.CallOwn}, n, api.ErrId)
	}
	right(t, k)
}

// TestOwnFull: as many categories as a label may have; what was drawn is told ahead of that.
func TestOwnFull(t *testing.T) {
	k := begun(t)
	for n := range api.MaxCats {
		makes(t, k, 3, api.Call{Op: api.CallOwn}, 100+n)
	}
	refuses(t, k, 3, api.Call{Op: api.CallOwn}, 200, api.ErrFull)
	refuses(t, k, 3, api.Call{Op: api.CallOwn}, 100, api.ErrId)
	refuses(t, k, 3, api.Call{Op: api.CallOwn}, 2, api.ErrId)
	refuses(t, k, 3, api.Call{Op: api.CallOwn}, 0, api.ErrArg)
	right(t, k)
}

func TestRise(t *testing.T) {
	k := peopled(t)
	does(t, k, 30, api.Call{Op: api.CallRise, L: of("{1 40:2}"), M: of("{J}")}, 0, api.Told{})
	labelled(t, k, 30, "{1 40:2}", "{2}")
	for _, l := range notPlain() {
		refuses(t, k, 30, api.Call{Op: api.CallRise, L: l}, 0, api.ErrArg)
	}
	for _, l := range []string{"{1}", "{0}", "{1 40:*}", "{3}", "{2 40:3}", "{1 40:2 50:3}"} {
		refuses(t, k, 30, api.Call{Op: api.CallRise, L: of(l)}, 0, api.ErrLabel)
	}
	does(t, k, 30, api.Call{Op: api.CallRise, L: of("{2}")}, 0, api.Told{})
	labelled(t, k, 30, "{2}", "{2}")
	// Who owns may give that up, and not have it again.
	does(t, k, 3, api.Call{Op: api.CallRise, L: of("{1}")}, 0, api.Told{})
	refuses(t, k, 3, api.Call{Op: api.CallRise, L: of("{1 20:*}")}, 0, api.ErrLabel)
	labelled(t, k, 3, "{1}", "{3}")
	right(t, k)
}

func TestClear(t *testing.T) {
	k := peopled(t)
	does(t, k, 30, api.Call{Op: api.CallClear, M: of("{1}"), L: of("{J}")}, 0, api.Told{})
	labelled(t, k, 30, "{1}", "{1}")
	for _, m := range notFree() {
		refuses(t, k, 3, api.Call{Op: api.CallClear, M: m}, 0, api.ErrArg)
	}
	for _, m := range []string{"{2}", "{0}", "{1 40:0}", "{1 40:2}"} {
		refuses(t, k, 30, api.Call{Op: api.CallClear, M: of(m)}, 0, api.ErrLabel)
	}
	// Above its clearance it may be only where it owns.
	does(t, k, 3, api.Call{Op: api.CallClear, M: of("{1}")}, 0, api.Told{})
	refuses(t, k, 3, api.Call{Op: api.CallClear, M: of("{1 40:3}")}, 0, api.ErrLabel)
	does(t, k, 3, api.Call{Op: api.CallClear, M: of("{1 20:3}")}, 0, api.Told{})
	labelled(t, k, 3, "{1 20:*}", "{1 20:3}")
	right(t, k)
}

func TestEnter(t *testing.T) {
	k := peopled(t)
	before := api.State{Pc: 4}
	for i := range before.R {
		before.R[i] = uint64(100 + i)
	}
	errno(t, "SetState", k.SetState(30, before), api.OK)
	does(t, k, 30, api.Call{Op: api.CallAim, Q: at(7, 7), B: 4}, 0, api.Told{})
	does(t, k, 30, api.Call{Op: api.CallEnter, P: at(1, 15), Q: at(8, 8), L: of("{1 20:*}"), M: of("{2}"), A: 9, B: 9, C: -2}, 0, api.Told{})
	labelled(t, k, 30, "{1 20:*}", "{2}")
	o := object(t, k, 30)
	before.Pc, before.R[1] = 640, 1<<64-2
	if o.State != before || o.Space != at(1, 13) || o.Does != api.Runs {
		t.Errorf("%+v", o)
	}
	if gate := object(t, k, 15); !same(gate.Label, of("{1 20:*}")) || !same(gate.Clear, of("{2}")) {
		t.Error(gate)
	}
	right(t, k)
}

func TestEnterErrors(t *testing.T) {
	k := peopled(t)
	fine := api.Call{Op: api.CallEnter, P: at(1, 15), L: of("{1 20:*}"), M: of("{2}")}
	for _, wrong := range []api.Label{of("{J}"), {Def: 9}} {
		c := fine
		c.L, c.M = wrong, wrong
		for _, r := range unnamed() {
			c.P = r
			refuses(t, k, 30, c, 0, api.ErrNone)
		}
		for _, id := range []int{2, 3, 5, 10, 11, 13, 30} {
			c.P = at(1, id)
			refuses(t, k, 30, c, 0, api.ErrKind)
		}
	}
	for _, l := range notPlain() {
		c := fine
		c.L = l
		refuses(t, k, 30, c, 0, api.ErrArg)
		refuses(t, k, 31, c, 0, api.ErrArg)
	}
	for _, l := range notFree() {
		c := fine
		c.M = l
		refuses(t, k, 30, c, 0, api.ErrArg)
	}
	refuses(t, k, 31, fine, 0, api.ErrLabel) // tainted above the gate's clearance
	c := fine
	c.L = of("{0}")
	refuses(t, k, 30, c, 0, api.ErrLabel) // below the floor
	c = fine
	c.M = of("{3}")
	refuses(t, k, 30, c, 0, api.ErrLabel) // above both clearances
	c = fine
	c.L = of("{2 30:3}")
	refuses(t, k, 30, c, 0, api.ErrLabel) // above its clearance to be
}

// TestEnterUnseen: a gate that a thread names is gone through by labels alone, whether it sees it or not.
func TestEnterUnseen(t *testing.T) {
	k := peopled(t)
	makes(t, k, 3, api.Call{Op: api.CallDoor, P: at(1, 0), L: of("{1 20:3}"), M: of("{3}"), A: 1, B: 8}, 50)
	refuses(t, k, 30, api.Call{Op: api.CallLook, P: at(1, 50)}, 0, api.ErrLabel)
	refuses(t, k, 30, api.Call{Op: api.CallEnter, P: at(1, 50), L: of("{1}"), M: of("{2}")}, 0, api.ErrLabel)
	does(t, k, 30, api.Call{Op: api.CallEnter, P: at(1, 50), L: of("{1 20:3}"), M: of("{3}")}, 0, api.Told{})
	labelled(t, k, 30, "{1 20:3}", "{3}")
	right(t, k)
}

func TestSelf(t *testing.T) {
	k := peopled(t)
	does(t, k, 3, api.Call{Op: api.CallSelf}, 0, api.Told{N: 3, L: of("{1 20:*}"), M: of("{3}")})
	does(t, k, 30, api.Call{Op: api.CallSelf}, 0, api.Told{N: 30, L: of("{1}"), M: of("{2}")})
	does(t, k, 31, api.Call{Op: api.CallSelf}, 0, api.Told{N: 31, L: of("{1 20:3}"), M: of("{3}")})
}

func TestAim(t *testing.T) {
	k := peopled(t)
	st := api.State{Pc: 4}
	st.R[1], st.R[15] = 7, 8
	errno(t, "SetState", k.SetState(30, st), api.OK)
	for _, b := range []int{0, 5, highest} {
		does(t, k, 30, api.Call{Op: api.CallAim, Q: at(b, -b), B: b, C: 3}, 0, api.Told{})
		st.Pc = uint64(b)
		if o := object(t, k, 30); o.State != st || o.Space != at(b, -b) {
			t.Errorf("%+v", o)
		}
	}
	for _, b := range []int{-1, least} {
		refuses(t, k, 30, api.Call{Op: api.CallAim, Q: at(1, 13), B: b}, 0, api.ErrArg)
	}
}

func TestNow(t *testing.T) {
	k := peopled(t)
	for n := range 5 {
		does(t, k, 30, api.Call{Op: api.CallNow}, 0, api.Told{N: n})
		if k.Ticks() != n {
			t.Error(k.Ticks())
		}
		k.Tick()
	}
}

func TestHalt(t *testing.T) {
	k := peopled(t)
	does(t, k, 3, api.Call{Op: api.CallPost, P: at(1, 30), A: 7}, 0, api.Told{})
	does(t, k, 30, api.Call{Op: api.CallHalt}, 0, api.Told{})
	doing(t, k, api.Stops, 30)
	// Alerts don't let it run again.
	does(t, k, 3, api.Call{Op: api.CallPost, P: at(1, 30), A: 8}, 0, api.Told{})
	doing(t, k, api.Stops, 30)
	if o := object(t, k, 30); !same(o.Alerts, []int{7, 8}) {
		t.Error(o.Alerts)
	}
	refuses(t, k, 30, api.Call{Op: api.CallTake}, 0, api.ErrDead)
	right(t, k)
}

func TestPostAndTake(t *testing.T) {
	k := peopled(t)
	refuses(t, k, 30, api.Call{Op: api.CallTake}, 0, api.ErrAgain)
	for n := range 8 {
		does(t, k, 3, api.Call{Op: api.CallPost, P: at(1, 30), A: 255 - n}, 0, api.Told{})
	}
	refuses(t, k, 3, api.Call{Op: api.CallPost, P: at(1, 30), A: 1}, 0, api.ErrFull)
	refuses(t, k, 3, api.Call{Op: api.CallPost, P: at(1, 30), A: 256}, 0, api.ErrArg)
	for n := range 8 {
		does(t, k, 30, api.Call{Op: api.CallTake}, 0, api.Told{N: 255 - n})
	}
	refuses(t, k, 30, api.Call{Op: api.CallTake}, 0, api.ErrAgain)
	// To itself, and 0.
	does(t, k, 30, api.Call{Op: api.CallPost, P: at(1, 30)}, 0, api.Told{})
	does(t, k, 30, api.Call{Op: api.CallTake}, 0, api.Told{})
	right(t, k)
}

func TestPostErrors(t *testing.T) {
	k := peopled(t)
	for _, a := range []int{0, 256} {
		for _, r := range unnamed() {
			refuses(t, k, 30, api.Call{Op: api.CallPost, P: r, A: a}, 0, api.ErrNone)
		}
		for _, id := range []int{2, 5, 10, 11, 13, 15} {
			refuses(t, k, 30, api.Call{Op: api.CallPost, P: at(1, id), A: a}, 0, api.ErrKind)
		}
		refuses(t, k, 30, api.Call{Op: api.CallPost, P: at(1, 31), A: a}, 0, api.ErrLabel) // it doesn't see it
		refuses(t, k, 30, api.Call{Op: api.CallPost, P: at(1, 3), A: a}, 0, api.ErrLabel)  // that one owns
		refuses(t, k, 31, api.Call{Op: api.CallPost, P: at(1, 30), A: a}, 0, api.ErrLabel) // it sees, but doesn't alter
	}
	for _, a := range []int{-1, 256, least, highest} {
		refuses(t, k, 3, api.Call{Op: api.CallPost, P: at(1, 30), A: a}, 0, api.ErrArg)
	}
}

// TestPostWakes: an alert lets a thread run that waits; with alerts it doesn't wait.
func TestPostWakes(t *testing.T) {
	k := peopled(t)
	does(t, k, 30, api.Call{Op: api.CallWait, P: at(1, 10), A: 8}, 0, api.Told{})
	if o := object(t, k, 30); o.Does != api.Waits || o.Seg != 10 || o.Off != 8 {
		t.Error(o)
	}
	does(t, k, 3, api.Call{Op: api.CallPost, P: at(1, 30), A: 9}, 0, api.Told{})
	doing(t, k, api.Runs, 30)
	refuses(t, k, 30, api.Call{Op: api.CallWait, P: at(1, 10)}, 0, api.ErrAgain)
	does(t, k, 30, api.Call{Op: api.CallWait, P: at(1, 10), B: 5}, 0, api.Told{N: 1})
	does(t, k, 30, api.Call{Op: api.CallTake}, 0, api.Told{N: 9})
	does(t, k, 30, api.Call{Op: api.CallWait, P: at(1, 10)}, 0, api.Told{})
	doing(t, k, api.Waits, 30)
	right(t, k)
}
