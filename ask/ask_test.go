package ask_test

import (
	"slices"
	"testing"

	"gatehouse/api"
	"gatehouse/ask"
	"gatehouse/kern"
)

// TestNamed: every error of the kernel has one name of the library's.
func TestNamed(t *testing.T) {
	want := map[api.Errno]api.Errno{api.OK: api.OK, api.ErrDead: api.ErrDead, api.ErrLabel: api.ErrAcces, api.ErrNone: api.ErrAcces, api.ErrQuota: api.ErrNoSpc, api.ErrFull: api.ErrNoSpc}
	for e := api.Errno(-1); e <= 13; e++ {
		name, ok := want[e]
		if !ok {
			name = api.ErrInval
		}
		if got := ask.Named(e); got != name {
			t.Errorf("Named(%d) = %d, not %d", e, got, name)
		}
	}
}

// first answers the first thread of a new kernel: the root is 1.
func first(draw int) ask.Caller {
	k, _ := kern.New(api.Boot{Root: 1, Console: 2, Thread: 3})
	return ask.Caller{Kernel: k, Whence: api.Whence{Thread: 3, Draw: draw}}
}

func errno(t *testing.T, what string, got, want api.Errno) {
	t.Helper()
	if got != want {
		t.Errorf("%s: error %d, not %d", what, got, want)
	}
}

func TestMakes(t *testing.T) {
	c, one := first(10), api.Label{Def: api.L1}
	errno(t, "Box", c.Box(1, one, 500), api.OK)
	errno(t, "Cell", c.After(1).Cell(10, one, 100, 7), api.OK)
	if c.Draw != 10 {
		t.Error("After changed what it was asked of")
	}
	box, _ := c.Kernel.Object(10)
	cell, _ := c.Kernel.Object(11)
	if box.Kind != api.Container || box.Quota != 500 || cell.Kind != api.Segment || cell.Quota != 100 || len(cell.Bytes) != 7 {
		t.Errorf("%+v, %+v", box, cell)
	}
	r := api.Ref{In: 10, Id: 11}
	errno(t, "Write", c.Write(r, 2, "ab"), api.OK)
	errno(t, "Resize", c.Resize(r, 5), api.OK)
	if s, e := c.Read(r, 1, 4); s != "\x00ab\x00" || e != api.OK {
		t.Errorf("%q, %d", s, e)
	}
	if n, e := c.Size(r); n != 5 || e != api.OK {
		t.Error(n, e)
	}
	if l, e := c.Look(r); l.Def != api.L1 || len(l.Cats) > 0 || e != api.OK {
		t.Error(l, e)
	}
	errno(t, "Cell again", c.After(1).Cell(10, one, 100, 7), api.ErrInval)
	errno(t, "Cell without room", c.After(2).Cell(10, one, 401, 7), api.ErrNoSpc)
	errno(t, "Drop", c.Drop(r), api.OK)
	errno(t, "Drop again", c.Drop(r), api.ErrAcces)
	if _, there := c.Kernel.Object(11); there {
		t.Error("it is there")
	}
}

// Who waits at a place is woken there, and nowhere else.
func TestWake(t *testing.T) {
	c, one := first(10), api.Label{Def: api.L1}
	errno(t, "Cell", c.Cell(1, one, 100, 16), api.OK)
	c.Kernel.Do(3, api.Call{Op: api.CallFlow, P: api.Ref{In: 1}, L: one, M: api.Label{Def: api.L2}, A: 1}, 30)
	r := api.Ref{In: 1, Id: 10}
	c.Kernel.Do(30, api.Call{Op: api.CallWait, P: r, A: 8}, 0)
	for _, x := range []struct{ at, does int }{{0, api.Waits}, {8, api.Runs}} {
		errno(t, "Wake", c.Wake(r, x.at), api.OK)
		if o, _ := c.Kernel.Object(30); o.Does != x.does {
			t.Errorf("behind Wake at %d: %+v", x.at, o)
		}
	}
	errno(t, "Wake", c.Wake(r, 9), api.ErrInval)
}

func TestNumbers(t *testing.T) {
	c := first(10)
	errno(t, "Cell", c.Cell(1, api.Label{Def: api.L1}, 100, 36), api.OK)
	r := api.Ref{In: 1, Id: 10}
	want := []int{-1 << 63, 0x0123456789abcdef, -2}
	errno(t, "SetNumbers", c.SetNumbers(r, 1, want...), api.OK)
	if s, e := c.Read(r, 0, 36); s != "\x00\x00\x00\x00\x00\x00\x00\x00"+"\x00\x00\x00\x00\x00\x00\x00\x80"+"\xef\xcd\xab\x89\x67\x45\x23\x01"+"\xfe\xff\xff\xff\xff\xff\xff\xff"+"\x00\x00\x00\x00" || e != api.OK {
		t.Errorf("%q, %d", s, e)
	}
	got := make([]int, 4)
	errno(t, "Numbers", c.Numbers(r, 0, got), api.OK)
	if !slices.Equal(got, append([]int{0}, want...)) {
		t.Error(got)
	}
	errno(t, "Numbers", c.Numbers(r, 3, got[:1]), api.OK)
	if got[0] != -2 {
		t.Error(got)
	}
	for _, n := range []int{-1, 2, 5, 1 << 40} {
		errno(t, "Numbers beyond", c.Numbers(r, n, got), api.ErrInval)
		errno(t, "SetNumbers beyond", c.SetNumbers(r, n, 7, 7, 7, 7), api.ErrInval)
	}
	if got[0] != -2 {
		t.Error(got)
	}
	none := ask.Caller{}
	errno(t, "Numbers of no kernel", none.Numbers(r, 0, got), api.ErrAcces)
	gone := ask.Caller{Kernel: c.Kernel, Whence: api.Whence{Thread: 9}}
	errno(t, "SetNumbers of nobody", gone.SetNumbers(r, 0, 7), api.ErrDead)
}
