package kern_test

import (
	"testing"

	"gatehouse/api"
	"gatehouse/kern"
)

// makers are the calls that make objects, each with what it needs to go well in a peopled kernel.
func makers() []api.Call {
	return []api.Call{
		{Op: api.CallBox, P: at(1, 0), L: of("{1}"), A: 10},
		{Op: api.CallCell, P: at(1, 0), L: of("{1}"), A: 10, B: 10},
		{Op: api.CallSpace, P: at(1, 0), L: of("{1}"), A: 10},
		{Op: api.CallFlow, P: at(1, 0), L: of("{1}"), M: of("{2}"), A: 10, B: 12},
		{Op: api.CallDoor, P: at(1, 0), L: of("{1}"), M: of("{2}"), A: 10, B: 12},
		{Op: api.CallClone, P: at(1, 10), Q: at(1, 0), L: of("{1}"), A: 16},
	}
}

// in answers the call with another container to make the object in.
func in(c api.Call, box int) api.Call {
	if c.Op == api.CallClone {
		c.Q.In = box
	} else {
		c.P.In = box
	}
	return c
}

func owning(c api.Call) bool { return c.Op == api.CallFlow || c.Op == api.CallDoor }

func TestMake(t *testing.T) {
	kinds := map[int]int{api.CallBox: api.Container, api.CallCell: api.Segment, api.CallSpace: api.Space, api.CallFlow: api.Thread, api.CallDoor: api.Gate, api.CallClone: api.Segment}
	for _, c := range makers() {
		for _, draw := range []int{50, api.MaxId} {
			k := peopled(t)
			c.P.Id, c.Q.Id = 10, 7
			makes(t, k, 3, in(c, 5), draw)
			want := api.Object{Info: api.Info{Id: draw, Kind: kinds[c.Op], Quota: c.A, Links: 1, Label: c.L}}
			switch c.Op {
			case api.CallCell:
				want.Bytes = string(make([]byte, 10))
			case api.CallClone:
				want.Bytes = string(make([]byte, 16))
			case api.CallFlow:
				want.Clear, want.Space, want.State = c.M, c.Q, api.State{Pc: 12}
			case api.CallDoor:
				want.Clear, want.Space, want.Entry = c.M, c.Q, 12
			}
			if got := object(t, k, draw); !same(got, want) {
				t.Errorf("%+v, not %+v", got, want)
			}
			if box := object(t, k, 5); !same(box.List, []int{16, 32, draw}) || box.Used != 51+c.A {
				t.Error(box)
			}
			if !k.Drawn(draw) {
				t.Error("not drawn", draw)
			}
			right(t, k)
		}
	}
}

// TestMakeErrors: of each that makes, the errors that all have, each in spite of all that come behind it.
func TestMakeErrors(t *testing.T) {
	k := peopled(t)
	for _, c := range makers() {
		worst := c
		worst.A, worst.L, worst.M = 0, of("{J}"), of("{J}")
		for _, n := range noBoxes() {
			refuses(t, k, 30, in(c, n), 50, api.ErrNone)
			refuses(t, k, 30, in(worst, n), 0, api.ErrNone)
		}
		refuses(t, k, 30, in(worst, 1), 0, api.ErrArg)

		labels := notFree()
		if owning(c) {
			labels = notPlain()
		}
		for _, l := range labels {
			x := c
			x.L = l
			refuses(t, k, 3, x, 50, api.ErrArg)
		}
		x := c
		x.M = of("{*}")
		if owning(c) {
			for _, l := range notFree() {
				x.M = l
				refuses(t, k, 3, x, 50, api.ErrArg)
			}
		} else {
			makes(t, k.Copy(), 3, x, 50)
		}

		// Whatever quota and number: it may not.
		for _, a := range []int{c.A, 0} {
			x = c
			x.A = a
			refuses(t, k, 31, x, 50, api.ErrLabel) // it doesn't alter the root
			refuses(t, k, 31, x, 0, api.ErrLabel)
			x.L = of("{0}")
			refuses(t, k, 30, x, 50, api.ErrLabel) // below its own label
			x.L, x.M = of("{3}"), of("{3}")
			refuses(t, k, 30, x, 50, api.ErrLabel) // above its clearance
			x.L, x.M = of("{1}"), of("{3}")
			if owning(c) {
				refuses(t, k, 30, x, 50, api.ErrLabel) // a clearance above its own
				x.L, x.M = of("{2}"), of("{1}")
				refuses(t, k, 30, x, 50, api.ErrLabel) // a label above the clearance
			}
		}
		x = in(c, 6)
		x.B = 0
		x.L = of("{1}")
		refuses(t, k, 3, x, 50, api.ErrLabel) // less tainted than its container

		for _, a := range []int{0, -1, least, api.MaxQuota + 1, highest} {
			x := c
			x.A, x.B = a, 0
			want := api.ErrArg
			if c.Op == api.CallClone && a < 16 || c.Op == api.CallCell && a < 0 {
				want = api.ErrQuota // that is its own error, and comes first
			}
			refuses(t, k, 3, x, 50, want)
			refuses(t, k, 3, x, 0, want)
		}
		for _, n := range append(wrongNumbers(), 1, 2, 3, 5, 11, 17, 20, 32) {
			refuses(t, k, 3, c, n, api.ErrId)
			x := c
			x.A = api.MaxQuota
			refuses(t, k, 3, x, n, api.ErrId)
		}
		x = c
		x.A = api.MaxQuota
		refuses(t, k, 3, x, 50, api.ErrQuota)
		x.A = 950
		refuses(t, k, 3, in(x, 5), 50, api.ErrQuota)
		x.A = 949
		makes(t, k.Copy(), 3, in(x, 5), 50)
	}
	right(t, k)
}

// TestMakeOwnErrors: those of a row come behind those of labels, ahead of quota and number.
func TestMakeOwnErrors(t *testing.T) {
	k := peopled(t)
	cell := api.Call{P: at(1, 0), L: of("{1}"), A: 10}
	for _, b := range []int{-1, 4097, least, highest} {
		x := cell
		x.B = b
		for _, a := range []int{10, 0, highest, least} {
			x.A = a
			allRefused(t, k, api.CallCell, []refusal{{3, x, 50, api.ErrArg}, {3, x, 0, api.ErrArg}, {31, x, 50, api.ErrLabel}})
		}
	}
	for _, ab := range [][2]int{{10, 11}, {10, 4096}, {4095, 4096}, {0, 1}, {-1, 0}, {least, 0}} {
		x := cell
		x.A, x.B = ab[0], ab[1]
		allRefused(t, k, api.CallCell, []refusal{{3, x, 50, api.ErrQuota}, {3, x, 0, api.ErrQuota}, {31, x, 50, api.ErrLabel}})
	}
	for _, ab := range [][2]int{{1, 0}, {1, 1}, {4096, 4096}, {api.MaxQuota - 3000, 0}} {
		y := k.Copy()
		makes(t, y, 3, api.Call{Op: api.CallCell, P: at(1, 0), L: of("{1}"), A: ab[0], B: ab[1]}, 50)
		bytesOf(t, y, 50, string(make([]byte, ab[1])))
	}
	for _, op := range []int{api.CallFlow, api.CallDoor} {
		for _, b := range []int{-1, least} {
			x := api.Call{P: at(1, 0), L: of("{1}"), M: of("{2}"), B: b}
			allRefused(t, k, op, []refusal{{3, x, 0, api.ErrArg}, {31, x, 50, api.ErrLabel}})
			x.A = 1
			allRefused(t, k, op, []refusal{{3, x, 3, api.ErrArg}, {3, x, 50, api.ErrArg}})
		}
		makes(t, k.Copy(), 3, api.Call{Op: op, P: at(1, 0), L: of("{1}"), M: of("{2}"), A: 1, B: highest}, 50)
	}
	clone := api.Call{P: at(1, 10), Q: at(1, 0), L: of("{1}"), A: 15}
	allRefused(t, k, api.CallClone, []refusal{{3, clone, 50, api.ErrQuota}, {3, clone, 0, api.ErrQuota}, {31, clone, 0, api.ErrLabel}})
}

func TestFlowBegins(t *testing.T) {
	k := peopled(t)
	c := api.Call{Op: api.CallFlow, P: at(1, 0), L: of("{1 20:*}"), M: of("{2 20:3}"), A: 1, B: highest, C: -1, Q: at(least, highest)}
	makes(t, k, 3, c, 50)
	o := object(t, k, 50)
	want := api.State{Pc: highest}
	want.R[1] = 1<<64 - 1
	if o.State != want || o.Space != c.Q || !same(o.Label, c.L) || !same(o.Clear, c.M) || o.Does != api.Runs || len(o.Alerts) > 0 {
		t.Errorf("%+v", o)
	}
	does(t, k, 50, api.Call{Op: api.CallSelf}, 0, api.Told{N: 50, L: c.L, M: c.M})
	c.C = least
	makes(t, k, 3, c, 51)
	if o := object(t, k, 51); o.State.R[1] != 1<<63 {
		t.Error(o.State)
	}
}

// TestKept: what few alone write may lie where all look.
func TestKept(t *testing.T) {
	k := peopled(t)
	refuses(t, k, 30, api.Call{Op: api.CallWrite, P: at(1, 12), S: "a"}, 0, api.ErrLabel)
	does(t, k, 3, api.Call{Op: api.CallWrite, P: at(1, 12), S: "a"}, 0, api.Told{})
	does(t, k, 30, api.Call{Op: api.CallRead, P: at(1, 12), B: 1}, 0, api.Told{S: "a"})
}

func TestClone(t *testing.T) {
	k := peopled(t)
	does(t, k, 3, api.Call{Op: api.CallWrite, P: at(1, 10), S: "abcdefghijklmnop"}, 0, api.Told{})
	makes(t, k, 3, api.Call{Op: api.CallClone, P: at(1, 10), Q: at(5, 10), L: of("{1 20:3}"), A: 16}, 50)
	bytesOf(t, k, 50, "abcdefghijklmnop")
	does(t, k, 3, api.Call{Op: api.CallWrite, P: at(5, 50), S: "XY"}, 0, api.Told{})
	does(t, k, 3, api.Call{Op: api.CallWrite, P: at(1, 10), A: 1, S: "--"}, 0, api.Told{})
	bytesOf(t, k, 50, "XYcdefghijklmnop")
	bytesOf(t, k, 10, "a--defghijklmnop")
	makes(t, k, 3, api.Call{Op: api.CallClone, P: at(5, 16), Q: at(1, 0), L: of("{1}"), A: 1}, 51)
	bytesOf(t, k, 51, "")
	right(t, k)
}

// TestCloneErrors: what is cloned is asked for ahead of where to.
func TestCloneErrors(t *testing.T) {
	k := peopled(t)
	for _, q := range []int{1, 99} {
		c := api.Call{Op: api.CallClone, Q: at(q, 0), L: of("{1}"), A: 100}
		for _, r := range unnamed() {
			c.P = r
			refuses(t, k, 30, c, 50, api.ErrNone)
		}
		for _, id := range []int{2, 3, 5, 13, 15, 30} {
			c.P = at(1, id)
			refuses(t, k, 30, c, 50, api.ErrKind)
		}
		c.P = at(1, 11)
		refuses(t, k, 30, c, 50, api.ErrLabel)
	}
	// It sees the secret, but may not make what all see.
	refuses(t, k, 31, api.Call{Op: api.CallClone, P: at(1, 11), Q: at(1, 0), L: of("{1}"), A: 100}, 50, api.ErrLabel)
	makes(t, k, 31, api.Call{Op: api.CallClone, P: at(1, 11), Q: at(6, 0), L: of("{1 20:3}"), A: 100}, 50)
}

// TestFull: more objects than there may be; the quota is asked for behind that.
func TestFull(t *testing.T) {
	k := begun(t)
	for n := range api.MaxObjects - 3 {
		makes(t, k, 3, api.Call{Op: api.CallSpace, P: at(1, 0), L: of("{1}"), A: 1}, 100+n)
	}
	for _, a := range []int{1, api.MaxQuota} {
		if _, e := k.Do(3, api.Call{Op: api.CallBox, P: at(1, 0), L: of("{1}"), A: a}, 99); e != api.ErrFull {
			t.Error(e)
		}
	}
	if k.Drawn(99) || len(k.Ids()) != api.MaxObjects {
		t.Error("one more", len(k.Ids()))
	}
	does(t, k, 3, api.Call{Op: api.CallDrop, P: at(1, 100)}, 0, api.Told{})
	makes(t, k, 3, api.Call{Op: api.CallBox, P: at(1, 0), L: of("{1}"), A: 1}, 99)
	if _, e := k.Do(3, api.Call{Op: api.CallBox, P: at(1, 0), L: of("{1}"), A: 1}, 100); e != api.ErrId {
		t.Error("a number that was had", e)
	}
}

// TestDraws: what had a number, or was a category, has it for good; a call that needs no number draws none.
func TestDraws(t *testing.T) {
	k := begun(t)
	box := api.Call{Op: api.CallBox, P: at(1, 0), L: of("{1}"), A: 1}
	makes(t, k, 3, box, 50)
	does(t, k, 3, api.Call{Op: api.CallDrop, P: at(1, 50)}, 60, api.Told{})
	if _, ok := k.Object(50); ok || !k.Drawn(50) || k.Drawn(60) {
		t.Error("gone, and drawn")
	}
	refuses(t, k, 3, box, 50, api.ErrId)
	refuses(t, k, 3, api.Call{Op: api.CallOwn}, 50, api.ErrId)
	makes(t, k, 3, api.Call{Op: api.CallOwn}, 51)
	refuses(t, k, 3, box, 51, api.ErrId)
	for op, c := range map[int]api.Call{api.CallNow: {}, api.CallSelf: {}, api.CallList: box, api.CallRise: {L: of("{1 51:*}")}} {
		c.Op = op
		if _, e := k.Do(3, c, 60); e != api.OK || k.Drawn(60) {
			t.Error(op, e)
		}
	}
	makes(t, k, 3, box, 60)
	for _, x := range []*kern.Kernel{k, k.Copy()} {
		if got := drawn(x); !same(got, []int{1, 2, 3, 50, 51, 60}) {
			t.Error(got)
		}
	}
}
