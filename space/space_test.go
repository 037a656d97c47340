package space_test

import (
	"fmt"
	"slices"
	"testing"

	"gatehouse/api"
	"gatehouse/space"
)

func TestRightRows(t *testing.T) {
	for _, l := range [][]api.Map{nil, {}, row(1), row(2), row(15), row(16), {seven}, {seven, eight}, {{At: 4, Pages: 64, In: 1, Id: 1}, one(68)}} {
		if !space.Right(l) {
			t.Errorf("Right(%v) = false", l)
		}
	}
	for _, m := range edgeMaps() {
		if !space.Right([]api.Map{m}) {
			t.Errorf("Right(%+v) = false", m)
		}
	}
}

func TestWrongRows(t *testing.T) {
	for _, l := range wrongRows() {
		if space.Right(l) {
			t.Errorf("Right(%v) = true", l)
		}
	}
}

// One segment may stand at many pages of addresses.
func TestOneSegmentTwice(t *testing.T) {
	l := []api.Map{{At: 1, Pages: 2, In: 1, Id: 7}, {At: 3, Pages: 2, In: 1, Id: 7, From: 1}, {At: 9, Pages: 2, In: 2, Id: 7}}
	if !space.Right(l) {
		t.Error("Right = false")
	}
	if got := put(t, l[2], l[0], l[1]); !slices.Equal(got, l) {
		t.Error(got)
	}
}

func TestPutInOrder(t *testing.T) {
	a, b, c := one(3), one(4), api.Map{At: 5, Pages: 64, In: 2, Id: 9, Write: true, Run: true}
	want := []api.Map{a, b, c}
	for _, order := range [][]api.Map{{a, b, c}, {a, c, b}, {b, a, c}, {b, c, a}, {c, a, b}, {c, b, a}} {
		if got := put(t, order...); !slices.Equal(got, want) {
			t.Errorf("%v: %v", order, got)
		}
	}
}

func TestPutEdges(t *testing.T) {
	for _, m := range edgeMaps() {
		got, e := space.Put(nil, m)
		errno(t, fmt.Sprint(m), e, api.OK)
		if !slices.Equal(got, []api.Map{m}) {
			t.Errorf("Put(nil, %+v) = %v", m, got)
		}
	}
}

func TestPutWrong(t *testing.T) {
	for _, m := range wrongMaps() {
		for _, l := range [][]api.Map{nil, {one(900)}, row(16), {one(10)}} {
			got, e := space.Put(l, m)
			errno(t, fmt.Sprint(m), e, api.ErrArg)
			if len(got) > 0 {
				t.Errorf("%v beside an error", got)
			}
		}
	}
	for _, l := range wrongRows() {
		for _, m := range []api.Map{one(500), one(1), one(10)} {
			got, e := space.Put(l, m)
			errno(t, fmt.Sprint(l), e, api.ErrArg)
			if len(got) > 0 {
				t.Errorf("%v beside an error", got)
			}
		}
	}
}

// The mapping stands from 10 to 13: whatever reaches into that is refused, what only meets it isn't.
func TestPutOverlap(t *testing.T) {
	l := []api.Map{{At: 10, Pages: 4, In: 1, Id: 1}}
	for _, c := range []struct {
		at, pages int
		e         api.Errno
	}{
		{9, 1, api.OK}, {6, 4, api.OK}, {14, 1, api.OK}, {14, 50, api.OK}, {0, 10, api.OK},
		{9, 2, api.ErrForm}, {0, 11, api.ErrForm}, {10, 1, api.ErrForm}, {10, 4, api.ErrForm}, {11, 2, api.ErrForm},
		{13, 1, api.ErrForm}, {13, 9, api.ErrForm}, {9, 6, api.ErrForm}, {0, 64, api.ErrForm}, {10, 5, api.ErrForm}, {9, 5, api.ErrForm},
	} {
		got, e := space.Put(l, api.Map{At: c.at, Pages: c.pages, In: 1, Id: 2})
		errno(t, fmt.Sprint(c), e, c.e)
		if len(got) != 2 && e == api.OK || len(got) > 0 && e != api.OK {
			t.Errorf("%v: %v", c, got)
		}
	}
}

// Each mapping of a row is in the way, not the first or the nearest alone.
func TestPutOverlapAnywhere(t *testing.T) {
	l := row(15)
	for _, m := range l {
		_, e := space.Put(l, m)
		errno(t, fmt.Sprint(m), e, api.ErrForm)
		_, e = space.Put(l, one(m.At+1))
		errno(t, fmt.Sprint(m.At+1), e, api.OK)
	}
	_, e := space.Put(l, api.Map{At: 0, Pages: 64, In: 1, Id: 1})
	errno(t, "all", e, api.ErrForm)
}

func TestPutFull(t *testing.T) {
	got, e := space.Put(row(15), one(100))
	errno(t, "the sixteenth", e, api.OK)
	if len(got) != 16 || !space.Right(got) {
		t.Error(got)
	}
	for _, m := range []api.Map{one(0), one(2), one(100)} {
		if got, e := space.Put(row(16), m); e != api.ErrFull || len(got) > 0 {
			t.Errorf("the seventeenth: %v, %d", got, e)
		}
	}
	if got, e := space.Put(row(16), one(5)); e != api.ErrForm || len(got) > 0 {
		t.Errorf("the seventeenth, where one is: %v, %d", got, e)
	}
}

func TestCut(t *testing.T) {
	l := row(16)
	for i, m := range l {
		got, e := space.Cut(l, m.At)
		if e != api.OK || !slices.Equal(got, slices.Delete(slices.Clone(l), i, i+1)) {
			t.Errorf("Cut(%d) = %v, %d", m.At, got, e)
		}
	}
	if got, e := space.Cut([]api.Map{eight}, 3); e != api.OK || len(got) > 0 {
		t.Errorf("Cut of the only one = %v, %d", got, e)
	}
}

func TestCutNone(t *testing.T) {
	l := []api.Map{seven, eight}
	for _, at := range []int{least, -1, 0, 1, 4, 5, 7, 8, 130, api.MaxVa, highest} {
		if got, e := space.Cut(l, at); e != api.ErrNone || len(got) > 0 {
			t.Errorf("Cut(%d) = %v, %d", at, got, e)
		}
	}
	if got, e := space.Cut(nil, 0); e != api.ErrNone || len(got) > 0 {
		t.Errorf("Cut(nil) = %v, %d", got, e)
	}
}

func TestCutWrong(t *testing.T) {
	for _, l := range wrongRows() {
		for _, at := range []int{l[0].At, 1, 555, -1} {
			if got, e := space.Cut(l, at); e != api.ErrArg || len(got) > 0 {
				t.Errorf("Cut(%v, %d) = %v, %d", l, at, got, e)
			}
		}
	}
}
