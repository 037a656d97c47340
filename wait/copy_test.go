package wait_test

import (
	"slices"
	"testing"

	"gatehouse/api"
	"gatehouse/wait"
)

// TestCopy: whichever of the two changes, the other one stays.
func TestCopy(t *testing.T) {
	changes := []func(r *wait.Rooms){
		func(r *wait.Rooms) { r.Wait(10, 9, 0) },
		func(r *wait.Rooms) { r.Wait(10, 11, lastOff) },
		func(r *wait.Rooms) { r.Wake(9, 0) },
		func(r *wait.Rooms) { r.Wake(8, 0) },
		func(r *wait.Rooms) { r.Post(7, 1) },
		func(r *wait.Rooms) { r.Post(1, 1) },
		func(r *wait.Rooms) { r.Post(10, 1) },
		func(r *wait.Rooms) { r.Take(1) },
		func(r *wait.Rooms) { r.Take(3) },
		func(r *wait.Rooms) { r.Close(9) },
		func(r *wait.Rooms) { r.Forget(6) },
		func(r *wait.Rooms) { r.Forget(1) },
	}
	for i, change := range changes {
		r := some(t)
		other := r.Copy()
		if state(r) != state(other) {
			t.Errorf("%d: no copy", i)
		}
		unchanged(t, r, func() { change(other) })
		after := state(other)
		if after == state(r) {
			t.Errorf("%d: the copy didn't change", i)
		}
		unchanged(t, other, func() { change(r) })
		if state(r) != after {
			t.Errorf("%d: the two went unlike ways", i)
		}
	}
}

// TestCopyOrder: a copy has the order of each place and of each segment, however many there are, and goes on from there.
func TestCopyOrder(t *testing.T) {
	r := wait.New()
	places, segments := map[[2]int][]int{}, map[int][]int{}
	d := dice(3)
	for thread := 1; thread <= 500; thread++ {
		seg, off := 1+d.roll(9), d.roll(4)
		waits(t, r, thread, seg, off)
		places[[2]int{seg, off}] = append(places[[2]int{seg, off}], thread)
		segments[seg] = append(segments[seg], thread)
	}
	c := r.Copy().Copy()
	for p, want := range places {
		these(t, "List", c.List(p[0], p[1]), want...)
	}
	for seg, want := range segments {
		waits(t, c, 1000+seg, seg, 2)
		these(t, "Close", c.Close(seg), append(slices.Clone(want), 1000+seg)...)
	}
	if c.Len() != 0 || r.Len() != 500 {
		t.Error(c.Len(), r.Len())
	}
}

// TestCopyEmpty: what there never was isn't in a copy, nor what there is no more.
func TestCopyEmpty(t *testing.T) {
	r := some(t)
	r.Close(9)
	r.Wake(8, 0)
	r.Forget(1)
	r.Take(3)
	for _, c := range []*wait.Rooms{wait.New().Copy(), r.Copy()} {
		if c == nil || state(c) != "0" {
			t.Fatal("a copy of nobody")
		}
		waits(t, c, 5, 9, 0)
		posted(t, c, 5, 1, true)
	}
}

// TestMemory: what is answered may be changed by whoever has it, and written behind its end, without anything happening to the rooms or to another answer.
func TestMemory(t *testing.T) {
	spoil := func(lists ...[]int) {
		for _, list := range lists {
			for i := range list[:cap(list)] {
				list[:cap(list)][i] = 77
			}
		}
	}
	r := some(t)
	c := r.Copy()
	unchanged(t, c, func() {
		unchanged(t, r, func() {
			spoil(r.List(9, 0), r.List(9, 8), r.List(8, 0), r.List(7, 7), r.Alerts(1), r.Alerts(3), r.Alerts(5))
			spoil(c.List(9, 0), c.List(9, 8), c.Alerts(1))
		})
		list, alerts := r.List(9, 0), r.Alerts(1)
		spoil(r.List(9, 0), r.Alerts(1))
		woken := r.Wake(9, 0)
		spoil(list)
		these(t, "Wake(9, 0)", woken, 5, 7)
		these(t, "Alerts(1)", alerts, 30, 10)
		closed := r.Close(9)
		spoil(woken)
		these(t, "Close(9)", closed, 6, 2)
		spoil(closed)
		waits(t, r, 6, 9, 8)
		waits(t, r, 5, 9, 8)
		these(t, "List(9, 8)", r.List(9, 8), 6, 5)
	})
	r.Forget(1)
	posted(t, r, 1, 9, false)
	these(t, "Alerts(1)", c.Alerts(1), 30, 10)
	errno(t, "Wait", c.Wait(1, 9, 0), api.ErrAgain)
}
