package kern_test

import (
	"slices"
	"testing"

	"gatehouse/api"
	"gatehouse/kern"
)

func TestNew(t *testing.T) {
	for _, b := range []api.Boot{{Root: 1, Console: 2, Thread: 3}, {Root: 9, Console: api.MaxId, Thread: 1}, {Root: api.MaxId, Console: api.MaxId - 1, Thread: 77}} {
		k, e := kern.New(b)
		errno(t, "New", e, api.OK)
		ids := []int{b.Root, b.Console, b.Thread}
		slices.Sort(ids)
		if !slices.Equal(k.Ids(), ids) || k.Ticks() != 0 {
			t.Error(k.Ids(), k.Ticks())
		}
		root := api.Object{Info: api.Info{Id: b.Root, Kind: api.Container, Quota: api.MaxQuota, Used: 2, Links: 1, Label: of("{1}")}, List: []int{b.Console, b.Thread}}
		console := api.Object{Info: api.Info{Id: b.Console, Kind: api.Device, Quota: 1, Links: 1, Label: of("{1}")}}
		thread := api.Object{Info: api.Info{Id: b.Thread, Kind: api.Thread, Quota: 1, Links: 1, Label: of("{1}")}, Clear: of("{3}")}
		for _, want := range []api.Object{root, console, thread} {
			if got, ok := k.Object(want.Id); !ok || !same(got, want) || !k.Drawn(want.Id) {
				t.Errorf("%+v, not %+v", got, want)
			}
		}
	}
}

func TestNewErrors(t *testing.T) {
	list := []api.Boot{{}, {Root: 1, Console: 1, Thread: 3}, {Root: 1, Console: 2, Thread: 1}, {Root: 1, Console: 2, Thread: 2}, {Root: 4, Console: 4, Thread: 4}}
	for _, n := range wrongNumbers() {
		list = append(list, api.Boot{Root: n, Console: 2, Thread: 3}, api.Boot{Root: 1, Console: n, Thread: 3}, api.Boot{Root: 1, Console: 2, Thread: n})
	}
	for _, b := range list {
		if k, e := kern.New(b); k != nil || e != api.ErrArg {
			t.Errorf("New(%+v) = %v, %d", b, k, e)
		}
	}
}

func TestNobodyThere(t *testing.T) {
	k := peopled(t)
	for _, n := range append(wrongNumbers(), 4, 20, 99, api.MaxId) {
		if o, ok := k.Object(n); ok || !same(o, api.Object{}) {
			t.Errorf("Object(%d) = %+v, %t", n, o, ok)
		}
		if k.Drawn(n) != (n == 20) {
			t.Error("Drawn", n)
		}
	}
}

// TestNil: of a nil kernel there is nothing, and nothing panics.
func TestNil(t *testing.T) {
	var k *kern.Kernel
	for op := range 34 {
		if told, e := k.Do(3, api.Call{Op: op}, 5); e != api.ErrNone || !same(told, api.Told{}) {
			t.Error("Do", op, told, e)
		}
	}
	if s, e := k.Load(3, 0, 1, api.ToRead); s != "" || e != api.ErrNone {
		t.Error("Load", s, e)
	}
	errno(t, "Store", k.Store(3, 0, "a"), api.ErrNone)
	errno(t, "Store of nothing", k.Store(3, 0, ""), api.ErrNone)
	errno(t, "Put", k.Put(2, "a"), api.ErrNone)
	errno(t, "SetState", k.SetState(3, api.State{}), api.ErrNone)
	errno(t, "Fill", k.Fill(3, "a"), api.ErrNone)
	k.Tick()
	if o, ok := k.Object(1); ok || !same(o, api.Object{}) {
		t.Error("Object", o, ok)
	}
	if len(k.Ids()) > 0 || k.Ticks() != 0 || k.Drawn(1) || k.Copy() != nil {
		t.Error("Ids, Ticks, Drawn, Copy")
	}
}

// TestExamples: those of the chapter.
func TestExamples(t *testing.T) {
	k := begun(t)
	root := at(1, 0)
	makes(t, k, 3, api.Call{Op: api.CallCell, P: root, L: of("{1}"), A: 100, B: 8}, 10)
	does(t, k, 3, api.Call{Op: api.CallWrite, P: at(1, 10), S: "ab"}, 0, api.Told{})
	does(t, k, 3, api.Call{Op: api.CallRead, P: at(1, 10), B: 3}, 0, api.Told{S: "ab\x00"})
	refuses(t, k, 3, api.Call{Op: api.CallRead, P: at(1, 11), B: 3}, 0, api.ErrNone)
	does(t, k, 3, api.Call{Op: api.CallWrite, P: at(1, 10), S: "\x00\x00"}, 0, api.Told{})

	makes(t, k, 3, api.Call{Op: api.CallOwn}, 20)
	makes(t, k, 3, api.Call{Op: api.CallCell, P: root, L: of("{1 20:3}"), A: 8, B: 8}, 21)
	makes(t, k, 3, api.Call{Op: api.CallFlow, P: root, L: of("{1}"), M: of("{2}"), A: 1}, 30)
	refuses(t, k, 30, api.Call{Op: api.CallRead, P: at(1, 21), B: 1}, 0, api.ErrLabel)
	refuses(t, k, 30, api.Call{Op: api.CallWrite, P: at(1, 21), S: "x"}, 0, api.ErrLabel)

	does(t, k, 3, api.Call{Op: api.CallWait, P: at(1, 10)}, 0, api.Told{})
	doing(t, k, api.Waits, 3)
	refuses(t, k, 3, api.Call{Op: api.CallNow}, 0, api.ErrDead)
	does(t, k, 30, api.Call{Op: api.CallWake, P: at(1, 10)}, 0, api.Told{})
	doing(t, k, api.Runs, 3)
	does(t, k, 3, api.Call{Op: api.CallNow}, 0, api.Told{})
	right(t, k)
}

// TestSecretsStay: a thread {1 20:3} writes into a segment {1}: ErrLabel.
func TestSecretsStay(t *testing.T) {
	k := peopled(t)
	refuses(t, k, 31, api.Call{Op: api.CallWrite, P: at(1, 10), S: "x"}, 0, api.ErrLabel)
	does(t, k, 31, api.Call{Op: api.CallWrite, P: at(1, 11), S: "x"}, 0, api.Told{})
}
