package wait

import "slices"

// Where: its place.
func (r *Rooms) Where(thread int) (seg, off int, ok bool) {
	if r == nil || r.waiters[thread] == nil {
		return 0, 0, false
	}
	w := r.waiters[thread]
	return w.seg, w.off, true
}

// List: who waits at a place.
func (r *Rooms) List(seg, off int) []int {
	if r == nil {
		return nil
	}
	return threads(r.places[place{seg: seg, off: off}])
}

// Alerts: a thread's.
func (r *Rooms) Alerts(thread int) []int {
	if r == nil {
		return nil
	}
	return slices.Collect(r.alerts[thread].all())
}

// Len: how many wait.
func (r *Rooms) Len() int {
	if r == nil {
		return 0
	}
	return len(r.waiters)
}
