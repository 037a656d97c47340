package kern_test

import (
	"strings"
	"testing"

	"gatehouse/api"
)

// segmentErrors does a call that asks for a segment: one that isn't there, is of another kind, may not be used so; whatever else is wrong, that comes first.
func segmentErrors(t *testing.T, op int, alters bool) {
	t.Helper()
	k := peopled(t)
	for _, n := range []int{0, least, highest} {
		c := api.Call{Op: op, A: n, B: n, S: strings.Repeat("a", 5000)}
		for _, r := range unnamed() {
			c.P = r
			refuses(t, k, 30, c, 0, api.ErrNone)
		}
		for _, id := range []int{2, 3, 5, 6, 13, 14, 15, 31} {
			c.P = at(1, id)
			refuses(t, k, 30, c, 0, api.ErrKind)
		}
		c.P = at(1, 11)
		refuses(t, k, 30, c, 0, api.ErrLabel)
		if alters {
			c.P = at(1, 12)
			refuses(t, k, 30, c, 0, api.ErrLabel)
			c.P = at(1, 10)
			refuses(t, k, 31, c, 0, api.ErrLabel)
		}
	}
}

func TestReadErrors(t *testing.T) {
	segmentErrors(t, api.CallRead, false)
	k := peopled(t)
	for _, ab := range [][2]int{{0, 17}, {16, 1}, {17, 0}, {-1, 1}, {0, -1}, {least, 1}, {highest, 1}, {highest, highest}, {1, highest}, {15, 2}} {
		refuses(t, k, 30, api.Call{Op: api.CallRead, P: at(1, 10), A: ab[0], B: ab[1]}, 0, api.ErrFault)
	}
}

func TestWriteErrors(t *testing.T) {
	segmentErrors(t, api.CallWrite, true)
	k := peopled(t)
	for a, s := range map[int]string{0: strings.Repeat("a", 17), 16: "a", 17: "", -1: "a", least: "", highest: "a", 15: "ab"} {
		refuses(t, k, 30, api.Call{Op: api.CallWrite, P: at(1, 10), A: a, S: s}, 0, api.ErrFault)
	}
}

func TestReadAndWrite(t *testing.T) {
	k := peopled(t)
	does(t, k, 30, api.Call{Op: api.CallWrite, P: at(1, 10), A: 14, B: 99, S: "ab"}, 0, api.Told{})
	does(t, k, 30, api.Call{Op: api.CallWrite, P: at(1, 10), S: "\xff\x00"}, 0, api.Told{})
	does(t, k, 30, api.Call{Op: api.CallWrite, P: at(1, 10), A: 16}, 0, api.Told{})
	does(t, k, 31, api.Call{Op: api.CallRead, P: at(1, 10), B: 16}, 0, api.Told{S: "\xff" + string(make([]byte, 13)) + "ab"})
	does(t, k, 30, api.Call{Op: api.CallRead, P: at(1, 10), A: 13, B: 2}, 0, api.Told{S: "\x00a"})
	does(t, k, 30, api.Call{Op: api.CallRead, P: at(1, 10), A: 16}, 0, api.Told{})
	does(t, k, 30, api.Call{Op: api.CallRead, P: at(5, 16)}, 0, api.Told{})
	bytesOf(t, k, 11, string(make([]byte, 8)))
}

func TestSize(t *testing.T) {
	segmentErrors(t, api.CallSize, false)
	k := peopled(t)
	does(t, k, 30, api.Call{Op: api.CallSize, P: at(1, 10)}, 0, api.Told{N: 16})
	does(t, k, 30, api.Call{Op: api.CallSize, P: at(1, 12), A: -1, B: -1}, 0, api.Told{N: 8})
	does(t, k, 30, api.Call{Op: api.CallSize, P: at(5, 16)}, 0, api.Told{})
}

func TestResize(t *testing.T) {
	segmentErrors(t, api.CallResize, true)
	k := peopled(t)
	does(t, k, 3, api.Call{Op: api.CallWrite, P: at(1, 10), S: "abcdefghijklmnop"}, 0, api.Told{})
	does(t, k, 30, api.Call{Op: api.CallResize, P: at(1, 10), A: 3, B: 9}, 0, api.Told{})
	bytesOf(t, k, 10, "abc")
	does(t, k, 30, api.Call{Op: api.CallResize, P: at(1, 10), A: 100}, 0, api.Told{})
	bytesOf(t, k, 10, "abc"+string(make([]byte, 97)))
	for _, a := range []int{101, 4096} {
		refuses(t, k, 30, api.Call{Op: api.CallResize, P: at(1, 10), A: a}, 0, api.ErrQuota)
	}
	for _, a := range []int{-1, 4097, least, highest} {
		refuses(t, k, 30, api.Call{Op: api.CallResize, P: at(1, 10), A: a}, 0, api.ErrArg)
	}
	does(t, k, 30, api.Call{Op: api.CallResize, P: at(1, 10)}, 0, api.Told{})
	bytesOf(t, k, 10, "")
	makes(t, k, 3, api.Call{Op: api.CallCell, P: at(1, 0), L: of("{1}"), A: 5000}, 50)
	refuses(t, k, 30, api.Call{Op: api.CallResize, P: at(1, 50), A: 4097}, 0, api.ErrArg)
	does(t, k, 30, api.Call{Op: api.CallResize, P: at(1, 50), A: 4096}, 0, api.Told{})
	right(t, k)
}

func TestWait(t *testing.T) {
	segmentErrors(t, api.CallWait, false)
	k := peopled(t)
	does(t, k, 3, api.Call{Op: api.CallWrite, P: at(1, 10), S: "\x01\x02\x00\x00\x00\x00\x00\x80\xff\xff\xff\xff\xff\xff\xff\xff"}, 0, api.Told{})
	for _, a := range []int{-1, 9, 16, least, highest, 4088} {
		refuses(t, k, 30, api.Call{Op: api.CallWait, P: at(1, 10), A: a}, 0, api.ErrFault)
	}
	refuses(t, k, 30, api.Call{Op: api.CallWait, P: at(5, 16)}, 0, api.ErrFault)
	for _, c := range []api.Call{{B: 0}, {B: 513}, {A: 8, B: 0}, {A: 8, B: highest}, {A: 1, B: -1}} {
		c.Op, c.P = api.CallWait, at(1, 10)
		unchanged(t, k, func() { does(t, k, 30, c, 0, api.Told{N: 1}) })
	}
	for _, c := range []api.Call{{B: least + 513}, {A: 8, B: -1}} {
		y := k.Copy()
		c.Op, c.P = api.CallWait, at(1, 10)
		does(t, y, 30, c, 0, api.Told{})
		if o := object(t, y, 30); o.Does != api.Waits || o.Seg != 10 || o.Off != c.A {
			t.Error(o)
		}
		doing(t, y, api.Runs, 3, 31, 32)
		right(t, y)
	}
	// The last place that there may be; and one that it may look at, but not alter.
	makes(t, k, 3, api.Call{Op: api.CallCell, P: at(1, 0), L: of("{1}"), A: 4096, B: 4096}, 50)
	refuses(t, k, 30, api.Call{Op: api.CallWait, P: at(1, 50), A: 4089}, 0, api.ErrFault)
	does(t, k, 30, api.Call{Op: api.CallWait, P: at(1, 50), A: 4088}, 0, api.Told{})
	does(t, k, 31, api.Call{Op: api.CallWait, P: at(1, 12)}, 0, api.Told{})
	doing(t, k, api.Waits, 30, 31)
}

func TestWake(t *testing.T) {
	segmentErrors(t, api.CallWake, true)
	k := peopled(t)
	for _, a := range []int{-1, 9, 16, least, highest} {
		refuses(t, k, 3, api.Call{Op: api.CallWake, P: at(1, 10), A: a}, 0, api.ErrFault)
	}
	unchanged(t, k, func() { does(t, k, 3, api.Call{Op: api.CallWake, P: at(1, 10)}, 0, api.Told{}) })
	does(t, k, 30, api.Call{Op: api.CallWait, P: at(1, 10)}, 0, api.Told{})
	does(t, k, 31, api.Call{Op: api.CallWait, P: at(1, 10)}, 0, api.Told{})
	does(t, k, 32, api.Call{Op: api.CallWait, P: at(1, 10), A: 8}, 0, api.Told{})
	makes(t, k, 3, api.Call{Op: api.CallFlow, P: at(1, 0), L: of("{1}"), M: of("{2}"), A: 1}, 50)
	does(t, k, 50, api.Call{Op: api.CallWait, P: at(1, 12)}, 0, api.Told{})
	does(t, k, 3, api.Call{Op: api.CallWake, P: at(1, 10), A: 4}, 0, api.Told{})
	doing(t, k, api.Waits, 30, 31, 32, 50)
	does(t, k, 3, api.Call{Op: api.CallWake, P: at(1, 10)}, 0, api.Told{})
	doing(t, k, api.Runs, 3, 30, 31)
	doing(t, k, api.Waits, 32, 50)
	does(t, k, 30, api.Call{Op: api.CallWake, P: at(1, 10), A: 8}, 0, api.Told{})
	doing(t, k, api.Runs, 32)
	doing(t, k, api.Waits, 50)
	does(t, k, 3, api.Call{Op: api.CallWake, P: at(1, 12)}, 0, api.Told{})
	doing(t, k, api.Runs, 50)
	right(t, k)
}

// TestWaitBeyond: who waits where a segment has no bytes any more still waits, until it has them again, or goes.
func TestWaitBeyond(t *testing.T) {
	k := peopled(t)
	does(t, k, 30, api.Call{Op: api.CallWait, P: at(1, 10), A: 8}, 0, api.Told{})
	does(t, k, 3, api.Call{Op: api.CallResize, P: at(1, 10)}, 0, api.Told{})
	doing(t, k, api.Waits, 30)
	refuses(t, k, 3, api.Call{Op: api.CallWake, P: at(1, 10), A: 8}, 0, api.ErrFault)
	right(t, k)
	y := k.Copy()
	does(t, k, 3, api.Call{Op: api.CallResize, P: at(1, 10), A: 16}, 0, api.Told{})
	does(t, k, 3, api.Call{Op: api.CallWake, P: at(1, 10), A: 8}, 0, api.Told{})
	doing(t, k, api.Runs, 30)
	errno(t, "Fill", y.Fill(10, "abc"), api.OK)
	doing(t, y, api.Waits, 30)
	does(t, y, 3, api.Call{Op: api.CallDrop, P: at(1, 10)}, 0, api.Told{})
	doing(t, y, api.Runs, 30)
}
