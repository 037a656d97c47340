package hold_test

import (
	"testing"

	"gatehouse/api"
	"gatehouse/hold"
	"gatehouse/label"
)

func TestExamples(t *testing.T) {
	x := begun(t)
	put(t, x, 1, 5, api.Container, 100)
	put(t, x, 5, 7, api.Segment, 60)
	errno(t, "Make", x.Make(5, 8, api.Segment, 41, one), api.ErrQuota)
	errno(t, "Link", x.Link(1, 7), api.OK)
	told(t, x, 7, 60, 0, 2)
	dropped(t, x, 1, 5, 5)
	told(t, x, 7, 60, 0, 1)
	dropped(t, x, 1, 7, 7)

	x = begun(t)
	put(t, x, 1, 5, api.Container, 100)
	errno(t, "Shift", x.Shift(1, 5, 10), api.OK)
	told(t, x, 5, 110, 0, 1)
	told(t, x, 1, most, 110, 1)
}

func TestNew(t *testing.T) {
	for _, id := range []int{1, 2, 77, api.MaxId - 1, api.MaxId} {
		for _, l := range freeLabels() {
			x := hold.New(id, l)
			i, ok := x.Info(id)
			if !ok || i.Id != id || i.Kind != api.Container || i.Quota != most || i.Used != 0 || i.Links != 1 || !same(i.Label, l) {
				t.Errorf("New(%d, %v): %+v, %t", id, l, i, ok)
			}
			listed(t, x, id)
			right(t, x, id)
		}
		for _, l := range append(owningLabels(), wrongLabels()...) {
			if hold.New(id, l) != nil {
				t.Errorf("New(%d, %v): a table", id, l)
			}
		}
	}
	for _, id := range []int{0, -1, least, api.MaxId + 1, highest} {
		if hold.New(id, one) != nil {
			t.Errorf("New(%d): a table", id)
		}
	}
}

func TestMake(t *testing.T) {
	x := begun(t)
	for kind := api.Container; kind <= api.Device; kind++ {
		id := 20 - kind
		l := of(api.L1, kind, api.L3)
		errno(t, "Make", x.Make(1, id, kind, 10*kind, l), api.OK)
		if i, ok := x.Info(id); !ok || i.Id != id || i.Kind != kind || i.Quota != 10*kind || i.Used != 0 || i.Links != 1 || !same(i.Label, l) {
			t.Errorf("Info(%d) = %+v, %t", id, i, ok)
		}
		if kind != api.Container {
			errno(t, "Make in no container", x.Make(id, 30, api.Segment, 1, one), api.ErrKind)
		}
	}
	listed(t, x, 1, 19, 18, 17, 16, 15, 14)
	told(t, x, 1, most, 210, 1)
	right(t, x, 1)
}

func TestMakeNumbers(t *testing.T) {
	x := boxed(t)
	unchanged(t, x, func() {
		for _, id := range []int{0, -1, least, api.MaxId + 1, highest, 1, 5, 7, 8, 9, 10} {
			errno(t, "a number", x.Make(1, id, api.Segment, 1, one), api.ErrId)
		}
		for _, kind := range []int{0, -1, 7, 8, least, highest} {
			errno(t, "a kind", x.Make(1, 20, kind, 1, one), api.ErrKind)
		}
		for _, quota := range []int{0, -1, most + 1, least, highest} {
			errno(t, "a quota", x.Make(1, 20, api.Segment, quota, one), api.ErrArg)
		}
		for _, in := range []int{0, 2, -1, least, highest} {
			errno(t, "no container", x.Make(in, 20, api.Segment, 1, one), api.ErrNone)
		}
		for _, in := range []int{7, 8, 9, 10} {
			errno(t, "another kind", x.Make(in, 20, api.Segment, 1, one), api.ErrKind)
		}
	})
	put(t, x, 1, 2, api.Segment, 1)
	put(t, x, 1, api.MaxId, api.Segment, 1)
	// A number that was an object's, and is none's now, may be one's again.
	dropped(t, x, 1, 2, 2)
	put(t, x, 1, 2, api.Device, 3)
	listed(t, x, 1, 5, 9, 10, api.MaxId, 2)
}

func TestMakeLabels(t *testing.T) {
	for kind := api.Container; kind <= api.Device; kind++ {
		owns := kind == api.Thread || kind == api.Gate
		for _, l := range freeLabels() {
			errno(t, "a free label", begun(t).Make(1, 5, kind, 1, l), api.OK)
		}
		for _, l := range owningLabels() {
			x := begun(t)
			if !owns {
				unchanged(t, x, func() { errno(t, "an owning label", x.Make(1, 5, kind, 1, l), api.ErrArg) })
				continue
			}
			errno(t, "an owning label", x.Make(1, 5, kind, 1, l), api.OK)
			if i, _ := x.Info(5); !same(i.Label, l) {
				t.Errorf("%v became %v", l, i.Label)
			}
		}
		for _, l := range wrongLabels() {
			x := begun(t)
			unchanged(t, x, func() { errno(t, "a wrong label", x.Make(1, 5, kind, 1, l), api.ErrArg) })
		}
	}
}

// TestLabelsAsInChapterOne: what is plain and free here is what package label calls so.
func TestLabelsAsInChapterOne(t *testing.T) {
	d := dice(4)
	for range 20000 {
		l := of(d.roll(8) - 1)
		for range d.roll(4) {
			l.Cats = append(l.Cats, api.Entry{Cat: d.roll(6), Level: d.roll(8) - 1})
		}
		x := begun(t)
		if e := x.Make(1, 5, api.Gate, 1, l); (e == api.OK) != label.Plain(l) {
			t.Errorf("a gate %v: %d", l, e)
		}
		if e := x.Make(1, 6, api.Space, 1, l); (e == api.OK) != label.Free(l) {
			t.Errorf("an address space %v: %d", l, e)
		}
	}
}

func TestMakeRoom(t *testing.T) {
	x := begun(t)
	put(t, x, 1, 5, api.Container, 100)
	put(t, x, 5, 6, api.Segment, 60)
	unchanged(t, x, func() {
		errno(t, "above the room", x.Make(5, 7, api.Segment, 41, one), api.ErrQuota)
		errno(t, "far above it", x.Make(5, 7, api.Segment, most, one), api.ErrQuota)
		errno(t, "above the root's", x.Make(1, 7, api.Segment, most-99, one), api.ErrQuota)
	})
	put(t, x, 5, 7, api.Segment, 40)
	errno(t, "no room", x.Make(5, 8, api.Segment, 1, one), api.ErrQuota)
	put(t, x, 1, 8, api.Container, most-100)
	errno(t, "no room in the root", x.Make(1, 9, api.Segment, 1, one), api.ErrQuota)
	put(t, x, 8, 9, api.Device, most-100)
	dropped(t, x, 1, 5, 5, 6, 7)
	put(t, x, 1, 10, api.Segment, 100)
	right(t, x, 1)
	y := begun(t)
	put(t, y, 1, 5, api.Segment, most)
	told(t, y, 1, most, most, 1)
}

func TestMakeFull(t *testing.T) {
	x := begun(t)
	put(t, x, 1, 2, api.Container, 4)
	for id := 3; id <= api.MaxObjects; id++ {
		if e := x.Make(1, id, api.Segment, 1, one); e != api.OK {
			t.Fatal(id, e)
		}
	}
	if x.Len() != api.MaxObjects {
		t.Fatal(x.Len())
	}
	unchanged(t, x, func() {
		errno(t, "one more", x.Make(1, 5000, api.Segment, 1, one), api.ErrFull)
		errno(t, "one more, without room", x.Make(2, 5000, api.Segment, 5, one), api.ErrFull)
		errno(t, "one more, with a number that is taken", x.Make(1, 1, api.Segment, 1, one), api.ErrId)
	})
	errno(t, "another link", x.Link(2, 4096), api.OK)
	dropped(t, x, 1, 4096)
	errno(t, "one that another links to", x.Make(1, 5000, api.Segment, 1, one), api.ErrFull)
	dropped(t, x, 2, 4096, 4096)
	put(t, x, 1, 5000, api.Segment, 1)
	right(t, x, 1)
}

// TestMakeOrder: of several errors the first one is answered.
func TestMakeOrder(t *testing.T) {
	x := boxed(t)
	bad := of(api.High)
	for i, c := range []struct {
		in, id, kind, quota int
		l                   api.Label
		want                api.Errno
	}{
		{2, 0, 0, 0, bad, api.ErrNone},
		{7, 0, 0, 0, bad, api.ErrKind},
		{7, 5, api.Segment, 1, one, api.ErrKind},
		{5, 0, 0, 0, bad, api.ErrKind},
		{5, 0, 7, 101, bad, api.ErrKind},
		{5, 0, api.Segment, 0, one, api.ErrArg},
		{5, 7, api.Segment, 101, bad, api.ErrArg},
		{5, 7, api.Segment, 101, one, api.ErrId},
		{5, 0, api.Segment, 101, one, api.ErrId},
		{5, 20, api.Segment, 101, one, api.ErrQuota},
	} {
		unchanged(t, x, func() {
			if e := x.Make(c.in, c.id, c.kind, c.quota, c.l); e != c.want {
				t.Errorf("%d: error %d, not %d", i, e, c.want)
			}
		})
	}
}

func TestLink(t *testing.T) {
	x := boxed(t)
	errno(t, "a segment", x.Link(1, 7), api.OK)
	errno(t, "a gate", x.Link(5, 10), api.OK)
	listed(t, x, 1, 5, 9, 10, 7)
	listed(t, x, 5, 7, 8, 10)
	told(t, x, 1, most, 210, 1)
	told(t, x, 5, 100, 100, 1)
	told(t, x, 7, 60, 0, 2)
	told(t, x, 10, 30, 0, 2)
	right(t, x, 1)
}

func TestLinkErrors(t *testing.T) {
	x := boxed(t)
	put(t, x, 5, 11, api.Container, 15)
	put(t, x, 1, 12, api.Space, 1)
	put(t, x, 1, 13, api.Device, 1)
	for i, c := range []struct {
		in, id int
		want   api.Errno
	}{
		{2, 7, api.ErrNone}, {1, 2, api.ErrNone}, {2, 3, api.ErrNone}, {7, 2, api.ErrNone}, {2, 5, api.ErrNone}, {0, 0, api.ErrNone}, {least, highest, api.ErrNone}, {1, -1, api.ErrNone},
		{7, 9, api.ErrKind}, {8, 9, api.ErrKind}, {10, 9, api.ErrKind}, {12, 9, api.ErrKind}, {13, 9, api.ErrKind}, {7, 7, api.ErrKind},
		{5, 1, api.ErrKind}, {1, 1, api.ErrKind}, {1, 5, api.ErrKind}, {1, 8, api.ErrKind}, {5, 12, api.ErrKind}, {5, 13, api.ErrKind}, {1, 11, api.ErrKind}, {11, 5, api.ErrKind},
		{1, 9, api.ErrArg}, {1, 10, api.ErrArg}, {5, 7, api.ErrArg},
		{5, 9, api.ErrQuota}, {5, 10, api.ErrQuota}, {11, 9, api.ErrQuota}, {11, 7, api.ErrQuota},
	} {
		unchanged(t, x, func() {
			if e := x.Link(c.in, c.id); e != c.want {
				t.Errorf("%d: Link(%d, %d): error %d, not %d", i, c.in, c.id, e, c.want)
			}
		})
	}
	// All the room is enough.
	errno(t, "Shift", x.Shift(5, 11, 5), api.OK)
	errno(t, "Link", x.Link(11, 9), api.OK)
	told(t, x, 11, 20, 20, 1)
}

func TestRelabel(t *testing.T) {
	x := boxed(t)
	for _, l := range append(freeLabels(), owningLabels()...) {
		errno(t, "Relabel", x.Relabel(8, l), api.OK)
		if i, _ := x.Info(8); !same(i.Label, l) {
			t.Errorf("%v became %v", l, i.Label)
		}
	}
	told(t, x, 8, 10, 0, 1)
	unchanged(t, x, func() {
		for _, l := range wrongLabels() {
			errno(t, "a wrong label", x.Relabel(8, l), api.ErrArg)
		}
		for _, l := range []api.Label{one, of(api.High)} {
			for _, id := range []int{1, 5, 7, 9, 10} {
				errno(t, "no thread", x.Relabel(id, l), api.ErrKind)
			}
			for _, id := range []int{0, 2, -1, least, highest} {
				errno(t, "no object", x.Relabel(id, l), api.ErrNone)
			}
		}
	})
}
