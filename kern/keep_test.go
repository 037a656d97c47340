package kern

import (
	"testing"

	"gatehouse/api"
)

// TestNothingIsKept: of what is gone nothing stays behind but its number.
func TestNothingIsKept(t *testing.T) {
	k, _ := New(api.Boot{Root: 1, Console: 2, Thread: 3})
	do := func(thread int, c api.Call, draw int) {
		t.Helper()
		c.L, c.M = api.Label{Def: api.L1}, api.Label{Def: api.L3}
		if _, e := k.Do(thread, c, draw); e != api.OK {
			t.Fatal(c.Op, draw, e)
		}
	}
	for box := 10; box < 60; box += 10 {
		in := api.Ref{In: box}
		do(3, api.Call{Op: api.CallBox, P: api.Ref{In: 1}, A: 100}, box)
		do(3, api.Call{Op: api.CallCell, P: in, A: 10, B: 8}, box+1)
		do(3, api.Call{Op: api.CallSpace, P: in, A: 1}, box+2)
		do(3, api.Call{Op: api.CallDoor, P: in, A: 1}, box+3)
		do(3, api.Call{Op: api.CallFlow, P: in, A: 1}, box+4)
		do(3, api.Call{Op: api.CallFlow, P: in, A: 1}, box+5)
		do(3, api.Call{Op: api.CallMap, P: api.Ref{In: box, Id: box + 2}, Map: api.Map{Pages: 1, In: 1, Id: 1}}, 0)
		do(3, api.Call{Op: api.CallPost, P: api.Ref{In: box, Id: box + 4}, A: 1}, 0)
		do(box+5, api.Call{Op: api.CallWait, P: api.Ref{In: box, Id: box + 1}}, 0)
	}
	for box := 10; box < 60; box += 10 {
		do(3, api.Call{Op: api.CallDrop, P: api.Ref{In: 1, Id: box}}, 0)
	}
	do(3, api.Call{Op: api.CallDrop, P: api.Ref{In: 1, Id: 2}}, 0)
	for _, x := range []*Kernel{k, k.Copy()} {
		if len(x.segments)+len(x.spaces)+len(x.gates)+len(x.devices) > 0 || len(x.threads) != 1 || x.rooms.Len() > 0 {
			t.Error(len(x.segments), len(x.spaces), len(x.gates), len(x.devices), len(x.threads), x.rooms.Len())
		}
		for n := range 60 {
			if len(x.rooms.Alerts(n)) > 0 {
				t.Error("alerts of", n)
			}
		}
		if len(x.drawn) != 3+5*6 {
			t.Error(len(x.drawn), "drawn")
		}
	}
}
