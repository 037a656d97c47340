package space_test

import (
	"slices"
	"testing"

	"gatehouse/api"
	"gatehouse/space"
)

// anyMap answers a mapping, mostly right, near the ends of the pages.
func anyMap(d *dice) api.Map {
	m := api.Map{At: d.roll(90), Pages: 1 + d.roll(12), In: 1 + d.roll(3), Id: 1 + d.roll(20), Write: d.roll(2) == 0, Run: d.roll(2) == 0}
	m.From = d.roll(66 - m.Pages)
	if d.roll(3) == 0 {
		m.At = api.MaxVa - 90 + d.roll(92)
	}
	if d.roll(20) == 0 {
		wrong := wrongMaps()
		m = wrong[d.roll(len(wrong))]
	}
	return m
}

// anyRow answers a row, right or not.
func anyRow(d *dice) []api.Map {
	var l []api.Map
	for range d.roll(7) {
		l = append(l, anyMap(d))
	}
	if d.roll(4) > 0 {
		slices.SortFunc(l, func(a, b api.Map) int { return a.At - b.At })
	}
	return l
}

func TestRightByPages(t *testing.T) {
	d, right := dice(5), 0
	for range 20000 {
		l := anyRow(&d)
		if space.Right(l) != rightRow(l) {
			t.Fatalf("Right(%v) = %t", l, !rightRow(l))
		}
		if rightRow(l) && len(l) > 1 {
			right++
		}
	}
	if right < 500 {
		t.Error("too few right rows: ", right)
	}
}

// A long row of calls, held against a list that is sorted whole each time.
func TestRowOfCalls(t *testing.T) {
	d := dice(6)
	var l []api.Map
	full := 0
	for range 4000 {
		if d.roll(3) > 0 {
			l = putOne(t, l, anyMap(&d))
		} else {
			l = cutOne(t, l, pick(&d, d.roll(90), api.MaxVa-d.roll(90), least, highest))
		}
		if !rightRow(l) || !space.Right(l) {
			t.Fatal("not right: ", l)
		}
		if len(l) == 16 {
			full++
			l = cutOne(t, l, l[d.roll(16)].At)
		}
		askAround(t, &d, l)
	}
	if full < 10 {
		t.Error("the row was hardly ever full: ", full)
	}
}

// putOne puts a mapping, and cuts it again.
func putOne(t *testing.T, l []api.Map, m api.Map) []api.Map {
	t.Helper()
	want := append(slices.Clone(l), m)
	slices.SortStableFunc(want, func(a, b api.Map) int { return a.At - b.At })
	got, e := space.Put(l, m)
	if !rightMap(m) {
		errno(t, "Put", e, api.ErrArg)
		return l
	}
	if len(want) <= 16 && !rightRow(want) {
		errno(t, "Put", e, api.ErrForm)
		return l
	}
	if e != api.OK || !slices.Equal(got, want) {
		t.Fatalf("Put(%v, %+v) = %v, %d", l, m, got, e)
	}
	back, e := space.Cut(got, m.At)
	if e != api.OK || !slices.Equal(back, l) {
		t.Fatalf("Cut(%v, %d) = %v, %d: not what was there", got, m.At, back, e)
	}
	return got
}

// cutOne cuts a mapping, and puts it again.
func cutOne(t *testing.T, l []api.Map, at int) []api.Map {
	t.Helper()
	i := slices.IndexFunc(l, func(m api.Map) bool { return m.At == at })
	got, e := space.Cut(l, at)
	if i < 0 {
		errno(t, "Cut", e, api.ErrNone)
		return l
	}
	if e != api.OK || !slices.Equal(got, slices.Delete(slices.Clone(l), i, i+1)) {
		t.Fatalf("Cut(%v, %d) = %v, %d", l, at, got, e)
	}
	if back, e := space.Put(got, l[i]); e != api.OK || !slices.Equal(back, l) {
		t.Fatalf("Put(%v, %+v) = %v, %d: not what was there", got, l[i], back, e)
	}
	return got
}

// askAround asks for some spans of a right row.
func askAround(t *testing.T, d *dice, l []api.Map) {
	t.Helper()
	addr := uint64(pick(d, d.roll(7000), 1<<32-d.roll(7000)))
	n, need := 1+d.roll(pick(d, 8, 130, 1500)), d.roll(3)
	got, e := space.Span(l, addr, n, need)
	want, f := span(l, addr, n, need)
	if e != f || !slices.Equal(got, want) {
		t.Fatalf("Span(%v, %d, %d, %d) = %v, %d, not %v, %d", l, addr, n, need, got, e, want, f)
	}
	if e == api.OK {
		eachByte(t, l, addr, n, need, got)
	}
}

// eachByte tells whether pieces are what the second promise says.
func eachByte(t *testing.T, l []api.Map, addr uint64, n, need int, list []api.Piece) {
	t.Helper()
	for _, p := range list {
		n -= p.N
		if p.N < 1 || p.Off < 0 || p.Off+p.N > 4096 {
			t.Fatalf("%v is beyond its segment", p)
		}
		for i := range p.N {
			one, e := space.Find(l, addr, need)
			if e != api.OK || !slices.Equal(one, []api.Piece{{In: p.In, Id: p.Id, Off: p.Off + i, N: 1}}) {
				t.Fatalf("Find(%v, %d, %d) = %v, %d, not byte %d of %v", l, addr, need, one, e, i, p)
			}
			addr++
		}
	}
	if n != 0 {
		t.Fatalf("%v: %d bytes too few", list, n)
	}
}
