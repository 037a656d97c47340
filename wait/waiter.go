package wait

import "gatehouse/api"

const (
	segmentBytes = api.MaxPages * api.PageSize
	maxCode      = 255
)

// place is where one may wait: a byte of a segment.
type place struct {
	seg, off int
}

func (p place) canBe() bool { return isNumber(p.seg) && p.off >= 0 && p.off < segmentBytes }

// isNumber: can it be a thread's or a segment's number?
func isNumber(id int) bool { return id >= 1 && id <= api.MaxId }

// waiter is a thread that waits. It stands in two queues, that of its place and that of its segment: so a whole segment, too, is answered in the order in which they came.
type waiter struct {
	place
	thread             int
	atPlace, inSegment *item[*waiter]
}

// enter lets a thread wait that doesn't.
func (r *Rooms) enter(thread int, at place) {
	w := &waiter{place: at, thread: thread}
	w.atPlace = r.places.push(at, w)
	w.inSegment = r.segments.push(at.seg, w)
	r.waiters[thread] = w
}

// leave lets a thread wait no more: did it?
func (r *Rooms) leave(thread int) bool {
	w := r.waiters[thread]
	if w == nil {
		return false
	}
	r.places.cut(w.place, w.atPlace)
	r.segments.cut(w.seg, w.inSegment)
	delete(r.waiters, thread)
	return true
}

// release lets all of a queue wait no more: these.
func (r *Rooms) release(q *queue[*waiter]) []int {
	list := threads(q)
	for _, thread := range list {
		r.leave(thread)
	}
	return list
}

// threads answers the threads of a queue, in order.
func threads(q *queue[*waiter]) []int {
	list := make([]int, 0, q.size())
	for w := range q.all() {
		list = append(list, w.thread)
	}
	return list
}
