package hold_test

import (
	"slices"
	"testing"

	"gatehouse/api"
)

func TestDrop(t *testing.T) {
	x := boxed(t)
	dropped(t, x, 1, 9, 9)
	listed(t, x, 1, 5, 10)
	told(t, x, 1, most, 130, 1)
	dropped(t, x, 5, 7, 7)
	told(t, x, 5, 100, 10, 1)
	put(t, x, 5, 11, api.Device, 90)
	dropped(t, x, 5, 8, 8)
	listed(t, x, 5, 11)
	dropped(t, x, 1, 5, 5, 11)
	told(t, x, 1, most, 30, 1)
	dropped(t, x, 1, 10, 10)
	listed(t, x, 1)
	if x.Len() != 1 || !slices.Equal(x.Ids(), []int{1}) {
		t.Error(x.Ids())
	}
	right(t, x, 1)
}

func TestDropErrors(t *testing.T) {
	x := boxed(t)
	for i, c := range []struct {
		in, id int
		want   api.Errno
	}{
		{2, 7, api.ErrNone}, {0, 0, api.ErrNone}, {least, highest, api.ErrNone},
		{7, 9, api.ErrKind}, {8, 2, api.ErrKind}, {10, 10, api.ErrKind}, {9, 0, api.ErrKind},
		{1, 2, api.ErrNone}, {1, 1, api.ErrNone}, {1, 7, api.ErrNone}, {5, 9, api.ErrNone}, {5, 5, api.ErrNone}, {5, 1, api.ErrNone}, {1, least, api.ErrNone},
	} {
		unchanged(t, x, func() {
			if gone, e := x.Drop(c.in, c.id); e != c.want || len(gone) > 0 {
				t.Errorf("%d: Drop(%d, %d) = %v, %d, not %d", i, c.in, c.id, gone, e, c.want)
			}
		})
	}
	dropped(t, x, 1, 9, 9)
	if _, e := x.Drop(1, 9); e != api.ErrNone {
		t.Error("dropped twice", e)
	}
}

// TestDropOrder: each object ahead of what is in it, what is in it ahead of what comes next.
func TestDropOrder(t *testing.T) {
	x := begun(t)
	put(t, x, 1, 50, api.Container, 1000)
	put(t, x, 50, 40, api.Segment, 1)
	put(t, x, 50, 30, api.Container, 100)
	put(t, x, 30, 99, api.Segment, 1)
	put(t, x, 30, 20, api.Container, 50)
	put(t, x, 20, 98, api.Thread, 1)
	put(t, x, 30, 10, api.Gate, 1)
	put(t, x, 50, 60, api.Container, 100)
	put(t, x, 60, 70, api.Space, 1)
	put(t, x, 1, 80, api.Segment, 1)
	y := x.Copy()
	dropped(t, x, 1, 50, 50, 40, 30, 99, 20, 98, 10, 60, 70)
	listed(t, x, 1, 80)
	right(t, x, 1)

	// What two of them link to goes with the last one; what stands elsewhere, too, stays.
	for _, link := range [][2]int{{60, 99}, {60, 10}, {50, 10}, {1, 40}} {
		errno(t, "Link", y.Link(link[0], link[1]), api.OK)
	}
	dropped(t, y, 1, 50, 50, 30, 20, 98, 60, 70, 99, 10)
	listed(t, y, 1, 80, 40)
	told(t, y, 40, 1, 0, 1)
	told(t, y, 1, most, 2, 1)
	right(t, y, 1)
}

// TestDropOneLink: only the container that is named links to it no more.
func TestDropOneLink(t *testing.T) {
	x := boxed(t)
	errno(t, "Link", x.Link(5, 9), api.OK)
	dropped(t, x, 1, 9)
	told(t, x, 9, 20, 0, 1)
	told(t, x, 1, most, 130, 1)
	told(t, x, 5, 100, 90, 1)
	errno(t, "Link", x.Link(1, 9), api.OK)
	listed(t, x, 1, 5, 10, 9)
	dropped(t, x, 5, 9)
	dropped(t, x, 1, 9, 9)
	right(t, x, 1)
}

// TestDropDeep: containers in containers, as many as there may be, go all at once.
func TestDropDeep(t *testing.T) {
	x := begun(t)
	var want []int
	for id := 2; id <= api.MaxObjects; id++ {
		put(t, x, id-1, id, api.Container, api.MaxObjects-id+1)
		want = append(want, id)
	}
	right(t, x, 1)
	dropped(t, x, 1, 2, want...)
	told(t, x, 1, most, 0, 1)
	if x.Len() != 1 {
		t.Error(x.Len())
	}
}

// TestDropWide: one container with all the others, in the order in which they were linked, not in that of their numbers.
func TestDropWide(t *testing.T) {
	x := begun(t)
	put(t, x, 1, 5000, api.Container, api.MaxObjects)
	want := []int{5000}
	for id := api.MaxObjects; id > 2; id-- {
		put(t, x, 5000, id, api.Segment, 1)
		want = append(want, id)
	}
	dropped(t, x, 1, 5000, want...)
	right(t, x, 1)
}

func TestShift(t *testing.T) {
	x := begun(t)
	put(t, x, 1, 5, api.Container, 100)
	put(t, x, 5, 6, api.Container, 30)
	for i, c := range []struct {
		in, id, n              int
		want                   api.Errno
		root, five, used5, six int
	}{
		{5, 6, 71, api.ErrQuota, 100, 100, 30, 30},
		{5, 6, 70, api.OK, 100, 100, 100, 100},
		{5, 6, 1, api.ErrQuota, 100, 100, 100, 100},
		{1, 5, -1, api.ErrQuota, 100, 100, 100, 100},
		{5, 6, 0, api.OK, 100, 100, 100, 100},
		{5, 6, -100, api.ErrQuota, 100, 100, 100, 100},
		{5, 6, -99, api.OK, 100, 100, 1, 1},
		{5, 6, -1, api.ErrQuota, 100, 100, 1, 1},
		{1, 5, -100, api.ErrQuota, 100, 100, 1, 1},
		{1, 5, -99, api.OK, 1, 1, 1, 1},
		{1, 5, -1, api.ErrQuota, 1, 1, 1, 1},
		{1, 5, most - 1, api.OK, most, most, 1, 1},
		{1, 5, 1, api.ErrQuota, most, most, 1, 1},
		{1, 5, most, api.ErrQuota, most, most, 1, 1},
		{1, 5, -most, api.ErrQuota, most, most, 1, 1},
		{1, 5, -most + 11, api.OK, 11, 11, 1, 1},
		{5, 6, 10, api.OK, 11, 11, 11, 11},
		{1, 5, 10, api.OK, 21, 21, 11, 11},
	} {
		if e := x.Shift(c.in, c.id, c.n); e != c.want {
			t.Errorf("%d: Shift(%d, %d, %d): error %d, not %d", i, c.in, c.id, c.n, e, c.want)
		}
		told(t, x, 1, most, c.root, 1)
		told(t, x, 5, c.five, c.used5, 1)
		told(t, x, 6, c.six, 0, 1)
	}
	right(t, x, 1)
}

func TestShiftErrors(t *testing.T) {
	x := boxed(t)
	put(t, x, 5, 11, api.Container, 10)
	for i, c := range []struct {
		in, id, n int
		want      api.Errno
	}{
		{2, 5, 1, api.ErrNone}, {0, 0, least, api.ErrNone}, {highest, 5, 1, api.ErrNone},
		{7, 5, 1, api.ErrKind}, {8, 2, least, api.ErrKind}, {10, 10, 0, api.ErrKind},
		{1, 2, 1, api.ErrNone}, {1, 1, 1, api.ErrNone}, {1, 7, 1, api.ErrNone}, {1, 11, least, api.ErrNone}, {5, 5, 1, api.ErrNone}, {5, 1, 0, api.ErrNone},
		{1, 9, 1, api.ErrKind}, {1, 10, -1, api.ErrKind}, {5, 7, 0, api.ErrKind}, {5, 8, highest, api.ErrKind}, {1, 9, least, api.ErrKind},
		{1, 5, most + 1, api.ErrArg}, {1, 5, -most - 1, api.ErrArg}, {5, 11, least, api.ErrArg}, {5, 11, highest, api.ErrArg}, {5, 11, least + 1, api.ErrArg},
		{1, 5, most, api.ErrQuota}, {1, 5, -most, api.ErrQuota}, {5, 11, 21, api.ErrQuota}, {5, 11, -10, api.ErrQuota}, {1, 5, -21, api.ErrQuota},
	} {
		unchanged(t, x, func() {
			if e := x.Shift(c.in, c.id, c.n); e != c.want {
				t.Errorf("%d: Shift(%d, %d, %d): error %d, not %d", i, c.in, c.id, c.n, e, c.want)
			}
		})
	}
}
