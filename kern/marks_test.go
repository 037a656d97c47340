package kern_test

import (
	"fmt"
	"slices"
	"strings"
	"testing"

	"gatehouse/api"
	"gatehouse/kern"
	"gatehouse/label"
)

// trespass tells what a thread's call has changed that it may not: but for what it alters, itself, and what it makes, that may be what lies in what it drops, and whoever waits at a segment that it alters or drops.
func trespass(by int, before, after map[int]api.Object) string {
	if by == 0 {
		return "" // from outside
	}
	t := before[by]
	alters := func(o api.Object) bool { return t.Kind == api.Thread && label.Alters(t.Label, o.Label) }
	for id, o := range before {
		now, there := after[id]
		if !there {
			if !loosened(o, before, after, alters) {
				return fmt.Sprintf("%d is gone, that nobody dropped", id)
			}
			continue
		}
		if id == by || alters(o) || sameObject(o, now) {
			continue
		}
		if now.Links < o.Links {
			o.Links = now.Links
		}
		if _, still := after[o.Seg]; o.Does == api.Waits && now.Does == api.Runs && (!still || alters(before[o.Seg])) {
			o.Does, o.Seg, o.Off = api.Runs, 0, 0
		}
		if !sameObject(o, now) {
			return fmt.Sprintf("%+v changed to %+v", before[id], now)
		}
	}
	made := len(after)
	for id := range after {
		if _, was := before[id]; was {
			made--
		}
	}
	if made > 1 {
		return fmt.Sprintf("%d made", made)
	}
	return ""
}

// loosened: was each container that linked to what is gone altered, or is it gone, too?
func loosened(o api.Object, before, after map[int]api.Object, alters func(api.Object) bool) bool {
	for id, box := range before {
		_, there := after[id]
		if slices.Contains(box.List, o.Id) && there && !alters(box) {
			return false
		}
	}
	return true
}

// hidden makes things in the secret box 6 of a peopled kernel; with the numbers of some of them low threads may be busy, too.
func hidden(t *testing.T, k *kern.Kernel) {
	t.Helper()
	secret := of("{1 20:3}")
	makes(t, k, 3, api.Call{Op: api.CallBox, P: at(6, 0), L: secret, A: 50}, 300)
	makes(t, k, 3, api.Call{Op: api.CallCell, P: at(6, 0), L: secret, A: 50, B: 40}, 301)
	makes(t, k, 3, api.Call{Op: api.CallSpace, P: at(6, 0), L: secret, A: 1}, 302)
	makes(t, k, 3, api.Call{Op: api.CallFlow, P: at(6, 0), L: secret, M: of("{3}"), A: 1}, 303)
	makes(t, k, 3, api.Call{Op: api.CallDoor, P: at(6, 0), L: secret, M: of("{3}"), A: 1}, 304)
	makes(t, k, 3, api.Call{Op: api.CallCell, P: at(300, 0), L: secret, A: 50, B: 40}, 305)
	does(t, k, 3, api.Call{Op: api.CallMap, P: at(6, 302), Map: api.Map{Pages: 1, In: 1, Id: 10, Write: true, Run: true}}, 0, api.Told{})
	does(t, k, 303, api.Call{Op: api.CallWait, P: at(6, 301)}, 0, api.Told{})
	errno(t, "Fill", k.Fill(11, "SECRET"), api.OK)
	does(t, k, 3, api.Call{Op: api.CallWrite, P: at(6, 301), S: "a secret"}, 0, api.Told{})
}

// someRef answers a Ref of things that are hidden, or that all see.
func (d *dice) someRef() api.Ref {
	ins := []int{1, 5, 6, 300, 301, 50, 51}
	ids := []int{300, 301, 302, 303, 304, 305, 17, 10, 16, 13, 15, 30, 32, 2, 50, 51, 52, 53}
	return api.Ref{In: pick(d, ins...), Id: pick(d, ids...)}
}

// seenBy answers what of a kernel the thread 30 sees, found by way of what it sees.
func seenBy(k *kern.Kernel) string {
	var s strings.Builder
	t, ok := k.Object(30)
	if !ok {
		return "gone"
	}
	for _, o := range dump(k) {
		if label.Sees(t.Label, o.Label) {
			fmt.Fprintf(&s, "%+v\n", o)
		}
	}
	return s.String()
}

// TestTwoMarks: to a thread that neither sees nor names them it is one whether things are there or not, whatever it asks.
func TestTwoMarks(t *testing.T) {
	d := dice(5)
	refused, done := 0, 0
	for row := range 40 {
		without := peopled(t)
		with := without.Copy()
		hidden(t, with)
		m := newModel()
		m.all[30] = object(t, without, 30)
		for step := range 120 {
			c := d.call(m, 30)
			c.P, c.Q = d.someRef(), d.someRef()
			if c.Op == api.CallDrop && (c.P.Id == 30 || c.P.Id == 6) || c.Op == api.CallHalt {
				continue
			}
			c.Map.In, c.Map.Id = c.Q.In, c.Q.Id
			draw := pick(&d, 50, 51, 52, 53, 54+step)
			told, e := without.Do(30, c, draw)
			also, f := with.Do(30, c, draw)
			if !sameTold(told, also) || e != f {
				t.Fatalf("row %d, step %d: %+v: %+v, %d without, %+v, %d with", row, step, c, told, e, also, f)
			}
			if a, b := seenBy(without), seenBy(with); a != b {
				t.Fatalf("row %d, step %d: %+v:\n%s\nwithout, with\n%s", row, step, c, a, b)
			}
			addr, n, need := uint64(d.roll(300)), 1+d.roll(9), d.roll(3)
			s, g := without.Load(30, addr, n, need)
			r, h := with.Load(30, addr, n, need)
			if s != r || g != h || without.Store(30, addr, "ab") != with.Store(30, addr, "ab") {
				t.Fatalf("row %d, step %d: Load %d: %q, %d without, %q, %d with", row, step, addr, s, g, r, h)
			}
			if told.N > 0 && e == api.OK {
				done++
			} else if e != api.OK {
				refused++
			}
			if o := object(t, without, 30); o.Does == api.Waits { // so that it goes on
				for _, k := range []*kern.Kernel{without, with} {
					does(t, k, 3, api.Call{Op: api.CallPost, P: at(1, 30), A: 1}, 0, api.Told{})
				}
			}
		}
	}
	if refused < 500 || done < 100 {
		t.Error("it says little:", refused, done)
	}
}

// TestNamedUnseen: of what it names without seeing it a thread learns no more than that it is named.
func TestNamedUnseen(t *testing.T) {
	for op := 9; op <= 30; op++ {
		for _, id := range []int{6, 11, 14, 31} {
			if op == api.CallDrop || op == api.CallList || op == api.CallTake || op == api.CallHalt || op == api.CallNow {
				continue
			}
			x := peopled(t)
			y := x.Copy()
			errno(t, "Fill", y.Fill(11, "otherwise"), api.OK)
			errno(t, "SetState", y.SetState(31, api.State{Pc: 7}), api.OK)
			does(t, y, 3, api.Call{Op: api.CallMap, P: at(1, 14), Map: api.Map{Pages: 1, In: 1, Id: 10}}, 0, api.Told{})
			does(t, y, 31, api.Call{Op: api.CallDrop, P: at(6, 17)}, 0, api.Told{})
			c := api.Call{Op: op, P: at(1, id), Q: at(1, 0), L: of("{1}"), M: of("{2}"), A: 9, S: "x", Map: api.Map{Pages: 1, In: 1, Id: 10}}
			told, e := x.Do(30, c, 60)
			also, f := y.Do(30, c, 60)
			if e == api.OK || e != f || !sameTold(told, also) {
				t.Errorf("call %d of %d: %+v, %d and %+v, %d", op, id, told, e, also, f)
			}
		}
	}
}
