package kern_test

import (
	"slices"
	"testing"

	"gatehouse/api"
	"gatehouse/kern"
)

// busy answers a peopled kernel in which threads wait, have alerts and memory, and the console has bytes.
func busy(t *testing.T) *kern.Kernel {
	t.Helper()
	k := mapped(t)
	does(t, k, 3, api.Call{Op: api.CallPost, P: at(1, 31), A: 4}, 0, api.Told{})
	does(t, k, 30, api.Call{Op: api.CallWait, P: at(1, 12), B: 0x21212e2e7470656b}, 0, api.Told{})
	does(t, k, 32, api.Call{Op: api.CallSay, P: at(1, 2), S: "said"}, 0, api.Told{})
	errno(t, "Put", k.Put(2, "heard"), api.OK)
	k.Tick()
	return k
}

// changes are calls of which each changes something of a busy kernel.
func changes() []func(k *kern.Kernel) {
	do := func(thread int, c api.Call, draw int) func(k *kern.Kernel) {
		return func(k *kern.Kernel) { k.Do(thread, c, draw) }
	}
	return []func(k *kern.Kernel){
		do(3, api.Call{Op: api.CallOwn}, 70),
		do(31, api.Call{Op: api.CallRise, L: of("{2 20:3}")}, 0),
		do(3, api.Call{Op: api.CallClear, M: of("{2 20:3}")}, 0),
		do(3, api.Call{Op: api.CallBox, P: at(5, 0), L: of("{1}"), A: 1}, 70),
		do(3, api.Call{Op: api.CallCell, P: at(1, 0), L: of("{1}"), A: 1, B: 1}, 70),
		do(3, api.Call{Op: api.CallFlow, P: at(1, 0), L: of("{1}"), M: of("{2}"), A: 1}, 70),
		do(3, api.Call{Op: api.CallDoor, P: at(1, 0), L: of("{1}"), M: of("{2}"), A: 1}, 70),
		do(3, api.Call{Op: api.CallLink, P: at(1, 15), Q: at(5, 0)}, 0),
		do(3, api.Call{Op: api.CallDrop, P: at(1, 5)}, 0),
		do(3, api.Call{Op: api.CallDrop, P: at(1, 12)}, 0),
		do(3, api.Call{Op: api.CallDrop, P: at(1, 13)}, 0),
		do(3, api.Call{Op: api.CallDrop, P: at(1, 15)}, 0),
		do(3, api.Call{Op: api.CallDrop, P: at(1, 31)}, 0),
		do(3, api.Call{Op: api.CallDrop, P: at(1, 2)}, 0),
		do(3, api.Call{Op: api.CallShift, P: at(1, 5), A: 7}, 0),
		do(3, api.Call{Op: api.CallWrite, P: at(1, 10), A: 3, S: "abc"}, 0),
		do(3, api.Call{Op: api.CallResize, P: at(1, 10), A: 20}, 0),
		do(3, api.Call{Op: api.CallResize, P: at(1, 10), A: 2}, 0),
		do(3, api.Call{Op: api.CallClone, P: at(1, 10), Q: at(1, 0), L: of("{1}"), A: 16}, 70),
		do(3, api.Call{Op: api.CallMap, P: at(1, 13), Map: api.Map{At: 90, Pages: 1, In: 1, Id: 10}}, 0),
		do(3, api.Call{Op: api.CallUnmap, P: at(1, 13)}, 0),
		do(3, api.Call{Op: api.CallWait, P: at(1, 10), A: 8, B: 0x6665646362613938}, 0),
		do(3, api.Call{Op: api.CallWake, P: at(1, 12)}, 0),
		do(3, api.Call{Op: api.CallPost, P: at(1, 30), A: 9}, 0),
		do(31, api.Call{Op: api.CallTake}, 0),
		do(3, api.Call{Op: api.CallHalt}, 0),
		do(3, api.Call{Op: api.CallSay, P: at(1, 2), S: "more"}, 0),
		do(3, api.Call{Op: api.CallHear, P: at(1, 2), A: 2}, 0),
		do(32, api.Call{Op: api.CallEnter, P: at(1, 15), L: of("{1 20:*}"), M: of("{2}"), C: 4}, 0),
		do(3, api.Call{Op: api.CallAim, Q: at(1, 2), B: 1}, 0),
		func(k *kern.Kernel) { k.Store(3, 4, "stored") },
		func(k *kern.Kernel) { k.Put(2, "put") },
		func(k *kern.Kernel) { k.Tick() },
		func(k *kern.Kernel) { k.SetState(30, api.State{Pc: 9}) },
		func(k *kern.Kernel) { k.Fill(10, "filled") },
	}
}

// TestCopy: whichever of the two changes, the other one stays; and both go the same way.
func TestCopy(t *testing.T) {
	for i, change := range changes() {
		x := busy(t)
		y := x.Copy()
		if state(x) != state(y) {
			t.Fatalf("%d: no copy", i)
		}
		unchanged(t, x, func() { change(y) })
		after := state(y)
		if after == state(x) {
			t.Errorf("%d: the copy didn't change", i)
		}
		unchanged(t, y, func() { change(x) })
		if state(x) != after {
			t.Errorf("%d: the two went unlike ways", i)
		}
		right(t, x)
		right(t, y)
		for j, other := range changes() {
			z, w := x.Copy(), y.Copy()
			other(z)
			other(w)
			if state(z) != state(w) {
				t.Errorf("%d, %d: the two went unlike ways", i, j)
			}
		}
	}
}

// roomy is a label in a row with spare room, and that whole row.
func roomy(s string) (api.Label, []api.Entry) {
	l := of(s)
	whole := append(slices.Clone(l.Cats), api.Entry{Cat: 77, Level: 77}, api.Entry{Cat: 78, Level: 78})
	return api.Label{Def: l.Def, Cats: whole[:len(l.Cats)]}, whole
}

// TestHandedIn: labels that are handed in aren't changed, nor kept.
func TestHandedIn(t *testing.T) {
	k := peopled(t)
	for i, c := range []api.Call{
		{Op: api.CallBox, P: at(1, 0), A: 1}, {Op: api.CallCell, P: at(1, 0), A: 1}, {Op: api.CallSpace, P: at(1, 0), A: 1},
		{Op: api.CallFlow, P: at(1, 0), A: 1}, {Op: api.CallDoor, P: at(1, 0), A: 1}, {Op: api.CallClone, P: at(1, 10), Q: at(1, 0), A: 99},
		{Op: api.CallRise}, {Op: api.CallClear}, {Op: api.CallEnter, P: at(1, 54)},
	} {
		var wholeL, wholeM []api.Entry
		c.L, wholeL = roomy("{1 20:2}")
		c.M, wholeM = roomy("{2 20:3}")
		keptL, keptM := slices.Clone(wholeL), slices.Clone(wholeM)
		if _, e := k.Do(3, c, 50+i); e != api.OK {
			t.Fatal(c.Op, e)
		}
		if !slices.Equal(wholeL, keptL) || !slices.Equal(wholeM, keptM) {
			t.Error(c.Op, "changed what was handed in")
		}
		before := state(k)
		clear(wholeL)
		clear(wholeM)
		if state(k) != before {
			t.Error(c.Op, "kept what was handed in")
		}
	}
	right(t, k)
}

// spoilLabel, spoilList write over all of an answer's memory, its spare room too.
func spoilLabel(l api.Label) { spoilList(l.Cats) }

func spoilList[T any](list []T) { clear(list[:cap(list)]) }

func spoilTold(x api.Told) {
	spoilLabel(x.L)
	spoilLabel(x.M)
	spoilList(x.List)
	spoilList(x.Maps)
}

func spoilObject(o api.Object) {
	spoilLabel(o.Label)
	spoilLabel(o.Clear)
	spoilList(o.List)
	spoilList(o.Maps)
	spoilList(o.Alerts)
}

// TestAnswersAreNewMemory: whoever has an answer may change it, without anything happening to the kernel, its copies, or other answers.
func TestAnswersAreNewMemory(t *testing.T) {
	k := busy(t)
	makes(t, k, 3, api.Call{Op: api.CallDoor, P: at(1, 0), L: of("{1 20:*}"), M: of("{2 20:3}"), A: 1}, 60)
	does(t, k, 3, api.Call{Op: api.CallClear, M: of("{2 20:3}")}, 0, api.Told{})
	y := k.Copy()
	before := state(k)
	for _, x := range []*kern.Kernel{k, y} {
		for _, o := range dump(x) {
			spoilObject(o)
		}
		spoilList(x.Ids())
		for _, c := range []api.Call{
			{Op: api.CallSelf}, {Op: api.CallList, P: at(1, 0)}, {Op: api.CallList, P: at(5, 0)}, {Op: api.CallLook, P: at(1, 11)}, {Op: api.CallLook, P: at(1, 60)}, {Op: api.CallMapped, P: at(1, 13)},
		} {
			first, e := x.Do(3, c, 0)
			second, f := x.Do(3, c, 0)
			if e != api.OK || f != api.OK || same(first, api.Told{}) {
				t.Error(c.Op, e, f)
			}
			spoilTold(first)
			if third, _ := x.Do(3, c, 0); !same(second, third) {
				t.Error(c.Op, "two answers share memory")
			}
		}
		if state(k) != before || state(y) != before {
			t.Error("changed from outside")
		}
	}
	// Through what is made by them later, too.
	makes(t, k, 3, api.Call{Op: api.CallOwn}, 61)
	does(t, k, 3, api.Call{Op: api.CallMap, P: at(1, 13), Map: api.Map{At: 5, Pages: 1, In: 1, Id: 10}}, 0, api.Told{})
	if state(y) != before {
		t.Error("the copy changed")
	}
}
