package audit_test

import (
	"slices"
	"testing"

	"gatehouse/api"
	"gatehouse/audit"
	"gatehouse/kern"
	"gatehouse/label"
	"gatehouse/view"
)

const (
	least   = -1 << 63
	highest = 1<<63 - 1
)

// of answers the label of a text.
func of(s string) api.Label {
	l, e := label.Parse(s)
	if e != api.OK {
		panic(s)
	}
	return l
}

// at names an entry of a container.
func at(in, id int) api.Ref { return api.Ref{In: in, Id: id} }

// Labels that aren't right, that aren't plain, that aren't free, each for a reason of its own.
func notRight() []api.Label {
	entries := func(list ...api.Entry) api.Label { return api.Label{Def: api.L1, Cats: list} }
	return []api.Label{
		{Def: -1}, {Def: 6}, {Def: least}, {Def: highest}, long(17, api.L0), long(1000, api.L3),
		entries(api.Entry{Cat: 5, Level: api.L1}), entries(api.Entry{Cat: 5, Level: -1}), entries(api.Entry{Cat: 5, Level: 6}),
		entries(api.Entry{Cat: 0, Level: api.L0}), entries(api.Entry{Cat: api.MaxId + 1, Level: api.L0}),
		entries(api.Entry{Cat: 5, Level: api.L0}, api.Entry{Cat: 5, Level: api.L0}), entries(api.Entry{Cat: 6, Level: api.L0}, api.Entry{Cat: 5, Level: api.L0}),
	}
}

func notPlain() []api.Label { return append(notRight(), of("{J}"), of("{1 5:J}")) }

func notFree() []api.Label { return append(notPlain(), of("{*}"), of("{1 5:*}"), of("{* 5:3}")) }

// long is a label {1} with n categories from 500 on at a level.
func long(n, level int) api.Label {
	l := api.Label{Def: api.L1}
	for i := range n {
		l.Cats = append(l.Cats, api.Entry{Cat: 500 + i, Level: level})
	}
	return l
}

// Objects of the dump of a furnished kernel, by their places.
const (
	isRoot    = iota // 1 {1}: 2, 3, 5, 6, 10, 15, 16, 30, 31
	isConsole        // 2
	isFirst          // 3, a thread {1 20:*}
	isBox            // 5 {1}: 11, 10, 17
	isSecret         // 6 {1 20:3}: 12
	isCell           // 10, a segment {1}, in the root and in the box
	isInner          // 11, a segment {1 20:0}
	isHidden         // 12, a segment {1 20:3}
	isSpace          // 15, with two mappings
	isDoor           // 16, a gate {1 20:*}
	isDoorway        // 17, a gate {1}, in the box and in the root
	isWaiting        // 30, a thread {1}, that waits at byte 8 of the segment 10
	isAlerted        // 31, a thread {1 20:3}, with two alerts, that stopped
	many
)

// furnished answers a kernel with objects of all kinds.
func furnished(t *testing.T) *kern.Kernel {
	t.Helper()
	k, e := kern.New(api.Boot{Root: 1, Console: 2, Thread: 3})
	if e != api.OK {
		t.Fatal("no kernel", e)
	}
	do := func(thread, draw int, c api.Call) {
		t.Helper()
		if _, e := k.Do(thread, c, draw); e != api.OK {
			t.Fatalf("%+v, draw %d: error %d", c, draw, e)
		}
	}
	one, secret, root, maps := of("{1}"), of("{1 20:3}"), at(1, 0), at(1, 15)
	do(3, 20, api.Call{Op: api.CallOwn})
	do(3, 5, api.Call{Op: api.CallBox, P: root, L: one, A: 20000})
	do(3, 6, api.Call{Op: api.CallBox, P: root, L: secret, A: 5000})
	do(3, 10, api.Call{Op: api.CallCell, P: root, L: one, A: 5000, B: 4096})
	do(3, 11, api.Call{Op: api.CallCell, P: at(5, 0), L: of("{1 20:0}"), A: 100, B: 100})
	do(3, 12, api.Call{Op: api.CallCell, P: at(6, 0), L: secret, A: 500, B: 256})
	do(3, 15, api.Call{Op: api.CallSpace, P: root, L: one, A: 1})
	do(3, 16, api.Call{Op: api.CallDoor, P: root, Q: maps, L: of("{1 20:*}"), M: of("{3}"), A: 1, B: 400})
	do(3, 17, api.Call{Op: api.CallDoor, P: at(5, 0), Q: maps, L: one, M: of("{2}"), A: 1})
	do(3, 0, api.Call{Op: api.CallLink, P: at(1, 10), Q: at(5, 0)})
	do(3, 30, api.Call{Op: api.CallFlow, P: root, Q: maps, L: one, M: of("{2}"), A: 1})
	do(30, 0, api.Call{Op: api.CallLink, P: at(5, 17), Q: root})
	do(3, 31, api.Call{Op: api.CallFlow, P: root, Q: maps, L: secret, M: of("{3}"), A: 1, B: 40, C: 7})
	do(3, 0, api.Call{Op: api.CallMap, P: maps, Map: api.Map{Pages: 64, In: 1, Id: 10, Run: true, Write: true}})
	do(3, 0, api.Call{Op: api.CallMap, P: maps, Map: api.Map{At: 200, Pages: 4, In: 6, Id: 12, Write: true}})
	do(3, 0, api.Call{Op: api.CallPost, P: at(1, 31), A: 255})
	do(3, 0, api.Call{Op: api.CallPost, P: at(1, 31), A: 0})
	do(31, 0, api.Call{Op: api.CallHalt})
	do(3, 0, api.Call{Op: api.CallAim, Q: maps})
	do(30, 0, api.Call{Op: api.CallSay, P: at(1, 2), S: "said"})
	do(30, 0, api.Call{Op: api.CallWait, P: at(1, 10), A: 8})
	k.Put(2, "put in")
	return k
}

// rightDump is a furnished kernel's.
func rightDump(t *testing.T) []api.Object {
	t.Helper()
	d := view.Dump(furnished(t))
	if len(d) != many {
		t.Fatal(len(d), "objects")
	}
	return d
}

// is answers what is told of an object.
func is(id int, what ...int) []api.Issue {
	var list []api.Issue
	for _, w := range what {
		list = append(list, api.Issue{Id: id, What: w})
	}
	return list
}

// tells fails unless just these are told of a dump, and it is right if they are none.
func tells(t *testing.T, name any, d []api.Object, root int, want ...[]api.Issue) {
	t.Helper()
	list := slices.Concat(want...)
	if got := audit.Check(d, root); !slices.Equal(got, list) {
		t.Errorf("%v: %v, not %v", name, got, list)
	}
	isThere := slices.ContainsFunc(d, func(o api.Object) bool { return o.Id == root })
	if got := audit.Right(d, root); got != (isThere && len(list) == 0) {
		t.Errorf("%v: Right is %t", name, got)
	}
}

// dice is a row of numbers that look like chance, the same each time.
type dice uint64

func (d *dice) roll(n int) int {
	*d = *d*6364136223846793005 + 1442695040888963407
	return int(uint64(*d) >> 33 % uint64(n))
}

// pick answers one of a few.
func pick[T any](d *dice, some ...T) T { return some[d.roll(len(some))] }

// some answers fewer than n, none at times.
func some[T any](d *dice, n int, make func() T) []T {
	var list []T
	for range d.roll(n) {
		list = append(list, make())
	}
	return list
}
