package wait_test

import (
	"fmt"
	"slices"
	"testing"

	"gatehouse/api"
	"gatehouse/wait"
)

const (
	least   = -1 << 63
	highest = 1<<63 - 1
	lastOff = 4095
)

// Numbers that can't be a thread's or a segment's, offsets that can't be a place's, codes that can't be an alert's.
func wrongNumbers() []int { return []int{least, least + 1, -1, 0, api.MaxId + 1, highest} }
func wrongOffs() []int    { return []int{least, -1, lastOff + 1, api.MaxId, highest} }
func wrongCodes() []int   { return []int{least, -1, 256, 1 << 32, highest} }

func errno(t *testing.T, what string, got, want api.Errno) {
	t.Helper()
	if got != want {
		t.Errorf("%s: error %d, not %d", what, got, want)
	}
}

// waits tells whether the thread may wait there.
func waits(t *testing.T, r *wait.Rooms, thread, seg, off int) {
	t.Helper()
	errno(t, fmt.Sprintf("Wait(%d, %d, %d)", thread, seg, off), r.Wait(thread, seg, off), api.OK)
}

// refused tells whether the thread may not wait there, with this error, and nothing has changed.
func refused(t *testing.T, r *wait.Rooms, thread, seg, off int, want api.Errno) {
	t.Helper()
	unchanged(t, r, func() {
		errno(t, fmt.Sprintf("Wait(%d, %d, %d)", thread, seg, off), r.Wait(thread, seg, off), want)
	})
}

// posted tells whether the alert was left, and whether the thread waited.
func posted(t *testing.T, r *wait.Rooms, thread, code int, waited bool) {
	t.Helper()
	if w, e := r.Post(thread, code); w != waited || e != api.OK {
		t.Errorf("Post(%d, %d) = %t, %d, not %t", thread, code, w, e, waited)
	}
}

// unposted tells whether the alert was refused, with this error, and nothing has changed.
func unposted(t *testing.T, r *wait.Rooms, thread, code int, want api.Errno) {
	t.Helper()
	unchanged(t, r, func() {
		if w, e := r.Post(thread, code); w || e != want {
			t.Errorf("Post(%d, %d) = %t, %d, not false, %d", thread, code, w, e, want)
		}
	})
}

// taken tells whether that was the thread's first alert.
func taken(t *testing.T, r *wait.Rooms, thread, want int) {
	t.Helper()
	if code, ok := r.Take(thread); code != want || !ok {
		t.Errorf("Take(%d) = %d, %t, not %d", thread, code, ok, want)
	}
}

// untaken tells whether the thread has no alert.
func untaken(t *testing.T, r *wait.Rooms, thread int) {
	t.Helper()
	unchanged(t, r, func() {
		if code, ok := r.Take(thread); code != 0 || ok {
			t.Errorf("Take(%d) = %d, %t", thread, code, ok)
		}
	})
}

// these tells whether the threads are those.
func these(t *testing.T, what string, got []int, want ...int) {
	t.Helper()
	if !slices.Equal(got, want) {
		t.Errorf("%s = %v, not %v", what, got, want)
	}
}

// at tells whether the thread waits there.
func at(t *testing.T, r *wait.Rooms, thread, seg, off int) {
	t.Helper()
	if s, o, ok := r.Where(thread); s != seg || o != off || !ok {
		t.Errorf("Where(%d) = %d, %d, %t, not %d, %d", thread, s, o, ok, seg, off)
	}
}

// nowhere tells whether the threads don't wait.
func nowhere(t *testing.T, r *wait.Rooms, threads ...int) {
	t.Helper()
	for _, thread := range threads {
		if s, o, ok := r.Where(thread); s != 0 || o != 0 || ok {
			t.Errorf("Where(%d) = %d, %d, %t", thread, s, o, ok)
		}
	}
}

// few answers the numbers that tests give to threads and segments: the ends, and some between them.
func few() []int {
	list := append(wrongNumbers(), api.MaxId-1, api.MaxId)
	for id := 1; id <= 12; id++ {
		list = append(list, id)
	}
	return list
}

func fewOffs() []int { return append(wrongOffs(), 0, 1, 7, 8, lastOff-1, lastOff) }

// state writes out all that is told of the few threads and places, so that two can be held against each other. Who waits in a segment, and in which order over all its places, is asked of a copy that is closed.
func state(r *wait.Rooms) string {
	s := fmt.Sprint(r.Len())
	for _, id := range few() {
		seg, off, ok := r.Where(id)
		if alerts := r.Alerts(id); ok || len(alerts) > 0 {
			s += fmt.Sprint("\nthread ", id, " ", seg, off, ok, alerts)
		}
		for _, off := range fewOffs() {
			if list := r.List(id, off); len(list) > 0 {
				s += fmt.Sprint("\nplace ", id, off, list)
			}
		}
		if list := r.Copy().Close(id); len(list) > 0 {
			s += fmt.Sprint("\nsegment ", id, list)
		}
	}
	return s
}

// unchanged tells whether the calls left all as it was.
func unchanged(t *testing.T, r *wait.Rooms, calls func()) {
	t.Helper()
	before := state(r)
	calls()
	if after := state(r); after != before {
		t.Errorf("changed from\n%s\nto\n%s", before, after)
	}
}

// some answers rooms: in the segment 9 the threads 5 and 7 at 0, 6 and 2 at 8, that came as 5, 6, 7, 2; in the segment 8 the thread 4 at 0; the threads 1 and 3 have alerts.
func some(t *testing.T) *wait.Rooms {
	t.Helper()
	r := wait.New()
	waits(t, r, 5, 9, 0)
	waits(t, r, 6, 9, 8)
	waits(t, r, 4, 8, 0)
	waits(t, r, 7, 9, 0)
	waits(t, r, 2, 9, 8)
	posted(t, r, 1, 30, false)
	posted(t, r, 3, 20, false)
	posted(t, r, 1, 10, false)
	return r
}

// dice is a row of numbers that look like chance, the same each time.
type dice uint64

func (d *dice) roll(n int) int {
	*d = *d*6364136223846793005 + 1442695040888963407
	return int(uint64(*d) >> 33 % uint64(n))
}

// pick answers one of a few.
func pick[T any](d *dice, some ...T) T { return some[d.roll(len(some))] }
