package kern_test

import (
	"strings"
	"testing"

	"gatehouse/api"
)

// rows tells whether a device has these rows.
func rows(t *testing.T, o api.Object, heard, out string) {
	t.Helper()
	if o.Heard != heard || o.Out != out {
		t.Errorf("%q, %q, not %q, %q", o.Heard, o.Out, heard, out)
	}
}

func TestPut(t *testing.T) {
	k := peopled(t)
	errno(t, "Put", k.Put(2, "ab"), api.OK)
	errno(t, "Put", k.Put(2, ""), api.OK)
	errno(t, "Put", k.Put(2, "\x00c"), api.OK)
	rows(t, object(t, k, 2), "ab\x00c", "")
	unchanged(t, k, func() {
		errno(t, "Put", k.Put(2, strings.Repeat("x", 4093)), api.ErrFull)
		for _, n := range append(wrongNumbers(), 4, 20, 99) {
			errno(t, "Put", k.Put(n, strings.Repeat("x", 5000)), api.ErrNone)
		}
		for _, n := range []int{1, 3, 5, 10, 13, 15} {
			errno(t, "Put", k.Put(n, strings.Repeat("x", 5000)), api.ErrKind)
		}
	})
	errno(t, "Put", k.Put(2, strings.Repeat("x", 4092)), api.OK)
	unchanged(t, k, func() {
		errno(t, "Put", k.Put(2, "y"), api.ErrFull)
		errno(t, "Put", k.Put(2, ""), api.OK)
	})
	does(t, k, 3, api.Call{Op: api.CallHear, P: at(1, 2), A: 1}, 0, api.Told{S: "a"})
	errno(t, "Put", k.Put(2, "y"), api.OK)
	rows(t, object(t, k, 2), "b\x00c"+strings.Repeat("x", 4092)+"y", "")
	right(t, k)
}

// deviceErrors does a call that asks for a device: one that isn't there, is of another kind, may not be altered.
func deviceErrors(t *testing.T, op int) {
	t.Helper()
	k := peopled(t)
	errno(t, "Put", k.Put(2, "abc"), api.OK)
	for _, a := range []int{1, -1} {
		c := api.Call{Op: op, A: a, S: strings.Repeat("x", 5000)}
		for _, r := range unnamed() {
			c.P = r
			refuses(t, k, 30, c, 0, api.ErrNone)
		}
		for _, id := range []int{3, 5, 6, 10, 11, 13, 15, 31} {
			c.P = at(1, id)
			refuses(t, k, 30, c, 0, api.ErrKind)
		}
		c.P = at(1, 2)
		refuses(t, k, 31, c, 0, api.ErrLabel)
	}
}

func TestSay(t *testing.T) {
	deviceErrors(t, api.CallSay)
	k := peopled(t)
	does(t, k, 30, api.Call{Op: api.CallSay, P: at(1, 2), S: "ab", A: -1}, 0, api.Told{})
	does(t, k, 3, api.Call{Op: api.CallSay, P: at(1, 2)}, 0, api.Told{})
	does(t, k, 3, api.Call{Op: api.CallSay, P: at(1, 2), S: "\xffc"}, 0, api.Told{})
	rows(t, object(t, k, 2), "", "ab\xffc")
	refuses(t, k, 3, api.Call{Op: api.CallSay, P: at(1, 2), S: strings.Repeat("x", 4093)}, 0, api.ErrFull)
	does(t, k, 3, api.Call{Op: api.CallSay, P: at(1, 2), S: strings.Repeat("x", 4092)}, 0, api.Told{})
	refuses(t, k, 3, api.Call{Op: api.CallSay, P: at(1, 2), S: "x"}, 0, api.ErrFull)
	does(t, k, 3, api.Call{Op: api.CallSay, P: at(1, 2)}, 0, api.Told{})
	rows(t, object(t, k, 2), "", "ab\xffc"+strings.Repeat("x", 4092))
	errno(t, "Put", k.Put(2, strings.Repeat("y", 4096)), api.OK) // each way has its own room
	right(t, k)
}

func TestHear(t *testing.T) {
	deviceErrors(t, api.CallHear)
	k := peopled(t)
	does(t, k, 30, api.Call{Op: api.CallHear, P: at(1, 2), A: 5}, 0, api.Told{})
	errno(t, "Put", k.Put(2, "abcdef"), api.OK)
	for _, a := range []int{-1, least} {
		refuses(t, k, 30, api.Call{Op: api.CallHear, P: at(1, 2), A: a}, 0, api.ErrArg)
	}
	unchanged(t, k, func() { does(t, k, 30, api.Call{Op: api.CallHear, P: at(1, 2)}, 0, api.Told{}) })
	does(t, k, 30, api.Call{Op: api.CallHear, P: at(1, 2), A: 2, B: 1}, 0, api.Told{S: "ab"})
	rows(t, object(t, k, 2), "cdef", "")
	errno(t, "Put", k.Put(2, "g"), api.OK)
	does(t, k, 3, api.Call{Op: api.CallHear, P: at(1, 2), A: 1}, 0, api.Told{S: "c"})
	does(t, k, 3, api.Call{Op: api.CallHear, P: at(1, 2), A: highest}, 0, api.Told{S: "defg"})
	does(t, k, 3, api.Call{Op: api.CallHear, P: at(1, 2), A: highest}, 0, api.Told{})
	rows(t, object(t, k, 2), "", "")
}

func TestSetState(t *testing.T) {
	k := peopled(t)
	st := api.State{Pc: 1<<64 - 1}
	for i := range st.R {
		st.R[i] = 1<<63 + uint64(i)
	}
	does(t, k, 30, api.Call{Op: api.CallWait, P: at(1, 10)}, 0, api.Told{})
	does(t, k, 31, api.Call{Op: api.CallHalt}, 0, api.Told{})
	for id, what := range map[int]int{3: api.Runs, 30: api.Waits, 31: api.Stops} {
		before := object(t, k, id)
		errno(t, "SetState", k.SetState(id, st), api.OK)
		before.State = st
		if after := object(t, k, id); !same(after, before) || after.Does != what {
			t.Errorf("%+v, not %+v", after, before)
		}
	}
	unchanged(t, k, func() {
		for _, n := range append(wrongNumbers(), 4, 20, 99) {
			errno(t, "SetState", k.SetState(n, api.State{}), api.ErrNone)
		}
		for _, n := range []int{1, 2, 5, 10, 13, 15} {
			errno(t, "SetState", k.SetState(n, api.State{}), api.ErrKind)
		}
	})
}

func TestFill(t *testing.T) {
	k := peopled(t)
	for _, s := range []string{"abc", strings.Repeat("\xff", 100), "", "x"} {
		errno(t, "Fill", k.Fill(10, s), api.OK)
		bytesOf(t, k, 10, s)
	}
	makes(t, k, 3, api.Call{Op: api.CallCell, P: at(1, 0), L: of("{1}"), A: 5000, B: 1}, 50)
	errno(t, "Fill", k.Fill(50, strings.Repeat("a", 4096)), api.OK)
	bytesOf(t, k, 50, strings.Repeat("a", 4096))
	unchanged(t, k, func() {
		errno(t, "Fill", k.Fill(10, strings.Repeat("a", 101)), api.ErrQuota)
		errno(t, "Fill", k.Fill(50, strings.Repeat("a", 4097)), api.ErrQuota)
		for _, n := range append(wrongNumbers(), 4, 20, 99) {
			errno(t, "Fill", k.Fill(n, strings.Repeat("a", 5000)), api.ErrNone)
		}
		for _, n := range []int{1, 2, 3, 5, 13, 15} {
			errno(t, "Fill", k.Fill(n, strings.Repeat("a", 5000)), api.ErrKind)
		}
	})
	right(t, k)
}

// TestFillOfClones: clones and copies of kernels know nothing of what is filled in later.
func TestFillOfClones(t *testing.T) {
	k := peopled(t)
	errno(t, "Fill", k.Fill(10, "one"), api.OK)
	makes(t, k, 3, api.Call{Op: api.CallClone, P: at(1, 10), Q: at(1, 0), L: of("{1}"), A: 10}, 50)
	y := k.Copy()
	errno(t, "Fill", k.Fill(10, "two"), api.OK)
	errno(t, "Fill", y.Fill(50, "three"), api.OK)
	bytesOf(t, k, 10, "two")
	bytesOf(t, k, 50, "one")
	bytesOf(t, y, 10, "one")
	bytesOf(t, y, 50, "three")
}
