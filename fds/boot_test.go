package fds_test

import (
	"testing"

	"gatehouse/api"
	"gatehouse/fds"
	"gatehouse/files"
	"gatehouse/kern"
)

// boots tells whether Boot answers that error, and that it leaves nothing behind then.
func boots(t *testing.T, f *files.Files, k *kern.Kernel, w api.Whence, in int, l api.Label, quota int, want api.Errno) *fds.Table {
	t.Helper()
	before := ""
	if k != nil {
		before = state(k)
	}
	x, e := fds.Boot(f, k, w, in, l, quota)
	if e != want || (x != nil) != (want == api.OK) {
		t.Errorf("Boot of %+v in %d, quota %d: %v, error %d, not %d", w, in, quota, x, e, want)
	}
	if k != nil && want != api.OK && state(k) != before {
		t.Errorf("Boot of %+v in %d, quota %d: error %d, and all changed%s", w, in, quota, e, unlike(before, state(k)))
	}
	return x
}

func TestBootMakes(t *testing.T) {
	for _, quota := range []int{128, 129, 1 << 20, 1<<39 - 10} {
		for _, l := range []string{"{1}", "{1 20:3}", "{1 20:0}"} {
			b := bare(t)
			x := boots(t, b.f, b.k, api.Whence{Thread: owner, Draw: 500}, 1, of(l), quota, api.OK)
			home, _ := b.k.Object(500)
			table, _ := b.k.Object(501)
			if home.Kind != api.Container || home.Quota != quota || !same(home.List, []int{501}) || !same(home.Label, of(l)) {
				t.Errorf("%+v", home)
			}
			if table.Kind != api.Segment || table.Quota != 128 || table.Bytes != bytesOf(make([]int, 16)...) || table.Links != 1 || !same(table.Label, of(l)) {
				t.Errorf("%+v", table)
			}
			if root, _ := b.k.Object(1); root.List[len(root.List)-1] != 500 {
				t.Error(root.List)
			}
			if x.Id() != 501 || x.Home() != 500 {
				t.Error(x.Id(), x.Home())
			}
			b.tells(t, x, by(owner), call{name: "Slots"}, answer{})
		}
	}
}

func TestBootRefused(t *testing.T) {
	one := of("{1}")
	b := bare(t)
	w := api.Whence{Thread: owner, Draw: 500}
	boots(t, nil, nil, w, 1, one, 5000, api.ErrNone)
	boots(t, b.f, nil, w, 1, one, 5000, api.ErrNone)
	boots(t, nil, b.k, w, 1, one, 5000, api.ErrNone)
	boots(t, nil, b.k, api.Whence{Thread: gone, Draw: -1}, -1, api.Label{Def: 9}, 0, api.ErrNone)
	for _, thread := range []int{ended, gone, 1, 0, least, highest} {
		boots(t, b.f, b.k, api.Whence{Thread: thread, Draw: 500}, 1, one, 5000, api.ErrDead)
	}
	for _, in := range []int{least, -1, 0, 2, owner, 77, api.MaxId, highest} {
		boots(t, b.f, b.k, w, in, one, 5000, api.ErrAcces)
	}
	for _, l := range []api.Label{{Def: -1}, {Def: 6}, of("{*}"), of("{1 20:*}"), of("{J}")} {
		boots(t, b.f, b.k, w, 1, l, 5000, api.ErrInval)
	}
	for _, draw := range []int{least, -1, 0, 1, owner, 20, 601, api.MaxId + 1, highest} {
		boots(t, b.f, b.k, api.Whence{Thread: owner, Draw: draw}, 1, one, 5000, api.ErrInval)
	}
	for _, quota := range []int{least, -1, 0, api.MaxQuota + 1, highest} {
		boots(t, b.f, b.k, w, 1, one, quota, api.ErrInval)
	}
	boots(t, b.f, b.k, w, 1, one, api.MaxQuota, api.ErrNoSpc) // others have some of it
	boots(t, b.f, b.k, w, 1, of("{0}"), 5000, api.ErrAcces)
	boots(t, b.f, b.k, api.Whence{Thread: tainted, Draw: 500}, 1, of("{1 20:3}"), 5000, api.ErrAcces)
	boots(t, b.f, b.k, api.Whence{Thread: low, Draw: 500}, 1, of("{3}"), 5000, api.ErrAcces)
	boots(t, b.f, b.k, api.Whence{Thread: kept, Draw: 500}, 1, one, 5000, api.ErrAcces)
	if b.k.Drawn(500) {
		t.Error("the number is drawn, and nothing was made")
	}
}

// Behind an error of the second call the container of the first one is gone.
func TestBootRefusedHalfway(t *testing.T) {
	b := bare(t)
	boots(t, b.f, b.k, api.Whence{Thread: owner, Draw: 500}, 1, of("{1}"), 127, api.ErrNoSpc)
	boots(t, b.f, b.k, api.Whence{Thread: owner, Draw: 510}, 1, of("{1}"), 1, api.ErrNoSpc)
	boots(t, b.f, b.k, api.Whence{Thread: low, Draw: 520}, 1, of("{2}"), 5000, api.ErrAcces) // it doesn't see what it made
	boots(t, b.f, b.k, api.Whence{Thread: owner, Draw: 19}, 1, of("{1}"), 5000, api.ErrInval)
	boots(t, b.f, b.k, api.Whence{Thread: owner, Draw: api.MaxId}, 1, of("{1}"), 5000, api.ErrInval)
	for _, n := range []int{500, 510, 520, 19, api.MaxId} {
		if !b.k.Drawn(n) {
			t.Error(n, "was not drawn: the second call was not reached")
		}
	}
}

func TestOfNil(t *testing.T) {
	var x *fds.Table
	for _, fd := range []int{least, -1, 0, 1, 15, 16, highest} {
		for _, c := range each(fd) {
			for _, w := range []api.Whence{{}, {Thread: owner, Draw: 500}} {
				if a, e := c.does(x, w); e != api.ErrNone || !same(a, answer{}) {
					t.Errorf("%+v of nil: %+v, %d", c, a, e)
				}
			}
		}
	}
	if x.Id() != 0 || x.Home() != 0 {
		t.Error(x.Id(), x.Home())
	}
	for _, id := range []int{least, -1, 0, 1, 601, highest} {
		if x.Of(id) != nil {
			t.Error(id, "of nil is there")
		}
	}
}

// Of asks nothing of the kernel: it answers tables of whatever numbers, whose calls find out.
func TestOf(t *testing.T) {
	b := furnished(t)
	r, w := b.pipe(t)
	b.opens(t, "/a", 1)
	b.writes(t, b.Table, w, "through", 7)
	b.reads(t, b.Of(b.Id()), r, 9, "through")
	unchanged(t, b.k, func() {
		for _, id := range []int{least, -1, 0, 1, 2, owner, 10, 600, 777, api.MaxId, highest} {
			x := b.Of(id)
			if x == nil || x.Id() != id || x.Home() != 600 {
				t.Errorf("Of(%d): %+v", id, x)
			}
			for _, c := range each(0) {
				b.refuses(t, x, b.draw(owner), c, api.ErrAcces)
			}
		}
	})
	for _, id := range numbers(b.k, b.Id())[:3] { // opens of the family are no tables
		for _, c := range each(0) {
			b.refuses(t, b.Of(id), b.draw(owner), c, api.ErrAcces)
			b.refuses(t, b.Of(id), b.draw(low), c, api.ErrAcces)
		}
	}
}

// Two families of one kernel have nothing in common.
func TestSeveralFamilies(t *testing.T) {
	b := furnished(t)
	x := b.family(t, 640, "{1}", 5000)
	b.opens(t, "/a", 1)
	b.tells(t, x, by(owner), call{name: "Slots"}, answer{})
	for _, c := range each(0) {
		b.refuses(t, x.Of(b.Id()), b.draw(owner), c, api.ErrAcces)
	}
	b.tells(t, x, b.draw(owner), call{name: "Open", path: "/a", n: 1}, answer{})
	b.reads(t, x, 0, 9, "hello")
	b.reads(t, b.Table, 0, 9, "hello")
}
