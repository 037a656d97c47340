package kern_test

import (
	"strings"
	"testing"

	"gatehouse/api"
	"gatehouse/kern"
)

// spaceErrors does a call that asks for an address space: one that isn't there, is of another kind, may not be used so.
func spaceErrors(t *testing.T, op int, alters bool) {
	t.Helper()
	k := peopled(t)
	makes(t, k, 3, api.Call{Op: api.CallSpace, P: at(1, 0), L: of("{1 20:0}"), A: 1}, 50)
	c := api.Call{Op: op, A: -1}
	for _, r := range unnamed() {
		c.P = r
		refuses(t, k, 30, c, 0, api.ErrNone)
	}
	for _, id := range []int{2, 3, 5, 6, 10, 11, 15, 31} {
		c.P = at(1, id)
		refuses(t, k, 30, c, 0, api.ErrKind)
	}
	c.P = at(1, 14)
	refuses(t, k, 30, c, 0, api.ErrLabel)
	if alters {
		c.P = at(1, 50)
		refuses(t, k, 30, c, 0, api.ErrLabel)
		c.P = at(1, 13)
		refuses(t, k, 31, c, 0, api.ErrLabel)
	}
}

func TestMap(t *testing.T) {
	spaceErrors(t, api.CallMap, true)
	k := peopled(t)
	a := api.Map{At: 9, Pages: 2, In: 1, Id: 10, From: 1, Write: true}
	b := api.Map{At: 1<<26 - 1, Pages: 1, In: 77, Id: 88, From: 63, Run: true}
	c := api.Map{At: 0, Pages: 9, In: api.MaxId, Id: api.MaxId}
	for _, m := range []api.Map{a, b, c} {
		does(t, k, 30, api.Call{Op: api.CallMap, P: at(1, 13), Map: m}, 0, api.Told{})
	}
	does(t, k, 31, api.Call{Op: api.CallMapped, P: at(1, 13)}, 0, api.Told{Maps: []api.Map{c, a, b}})
	if o := object(t, k, 13); !same(o.Maps, []api.Map{c, a, b}) {
		t.Error(o)
	}
	for _, m := range []api.Map{
		{}, {At: 20, In: 1, Id: 10}, {At: 20, Pages: 65, In: 1, Id: 10}, {At: -1, Pages: 1, In: 1, Id: 10}, {At: 1 << 26, Pages: 1, In: 1, Id: 10},
		{At: 20, Pages: 1, Id: 10}, {At: 20, Pages: 1, In: 1}, {At: 20, Pages: 1, In: 1, Id: 10, From: 64}, {At: highest, Pages: highest, In: highest, Id: highest, From: highest}, {At: least, Pages: least, In: least, Id: least, From: least},
	} {
		refuses(t, k, 30, api.Call{Op: api.CallMap, P: at(1, 13), Map: m}, 0, api.ErrArg)
	}
	for _, m := range []api.Map{a, {At: 8, Pages: 1, In: 1, Id: 10}, {At: 8, Pages: 5, In: 1, Id: 10}, {At: 10, Pages: 3, In: 1, Id: 10}} {
		refuses(t, k, 30, api.Call{Op: api.CallMap, P: at(1, 13), Map: m}, 0, api.ErrForm)
	}
	for n := range 13 {
		does(t, k, 30, api.Call{Op: api.CallMap, P: at(1, 13), Map: api.Map{At: 100 + n, Pages: 1, In: 1, Id: 10}}, 0, api.Told{})
	}
	refuses(t, k, 30, api.Call{Op: api.CallMap, P: at(1, 13), Map: api.Map{At: 200, Pages: 1, In: 1, Id: 10}}, 0, api.ErrFull)
	if o := object(t, k, 14); len(o.Maps) > 0 {
		t.Error(o)
	}
	right(t, k)
}

func TestUnmap(t *testing.T) {
	spaceErrors(t, api.CallUnmap, true)
	k := peopled(t)
	for _, n := range []int{0, -1, least, highest} {
		refuses(t, k, 30, api.Call{Op: api.CallUnmap, P: at(1, 13), A: n}, 0, api.ErrNone)
	}
	before := state(k)
	for _, n := range []int{0, 5} {
		does(t, k, 30, api.Call{Op: api.CallMap, P: at(1, 13), Map: api.Map{At: n, Pages: 2, In: 1, Id: 10}}, 0, api.Told{})
	}
	refuses(t, k, 30, api.Call{Op: api.CallUnmap, P: at(1, 13), A: 1}, 0, api.ErrNone)
	does(t, k, 30, api.Call{Op: api.CallUnmap, P: at(1, 13), A: 5}, 0, api.Told{})
	does(t, k, 30, api.Call{Op: api.CallMapped, P: at(1, 13)}, 0, api.Told{Maps: []api.Map{{At: 0, Pages: 2, In: 1, Id: 10}}})
	does(t, k, 30, api.Call{Op: api.CallUnmap, P: at(1, 13)}, 0, api.Told{})
	if after := state(k); after != before {
		t.Error(after)
	}
}

func TestMapped(t *testing.T) {
	spaceErrors(t, api.CallMapped, false)
	k := peopled(t)
	does(t, k, 30, api.Call{Op: api.CallMapped, P: at(1, 13)}, 0, api.Told{})
	does(t, k, 31, api.Call{Op: api.CallMapped, P: at(1, 14)}, 0, api.Told{})
}

// loads tells whether a thread loads these bytes.
func loads(t *testing.T, k *kern.Kernel, thread int, addr uint64, need int, want string) {
	t.Helper()
	if s, e := k.Load(thread, addr, len(want), need); s != want || e != api.OK {
		t.Errorf("Load(%d, %d, %d, %d) = %q, %d, not %q", thread, addr, len(want), need, s, e, want)
	}
}

// unloaded tells whether a thread may not load.
func unloaded(t *testing.T, k *kern.Kernel, thread int, addr uint64, n, need int, want api.Errno) {
	t.Helper()
	unchanged(t, k, func() {
		t.Helper()
		if s, e := k.Load(thread, addr, n, need); s != "" || e != want {
			t.Errorf("Load(%d, %d, %d, %d) = %q, %d, not %d", thread, addr, n, need, s, e, want)
		}
	})
}

// unstored tells whether a thread may not store.
func unstored(t *testing.T, k *kern.Kernel, thread int, addr uint64, s string, want api.Errno) {
	t.Helper()
	unchanged(t, k, func() {
		t.Helper()
		if e := k.Store(thread, addr, s); e != want {
			t.Errorf("Store(%d, %d, %q): %d, not %d", thread, addr, s, e, want)
		}
	})
}

// mapped answers a peopled kernel whose threads 3, 30 and 31 have the address space 13: page 0 is the segment 10 (16 bytes, to write), page 1 the segment 50 of 200 from its page 1 on (two pages, 128 bytes, to write), page 3 its page 0 (to run); page 10 is the secret 11 (to write), page 11 the kept 12 (to write), page 12 the segment 17 of the secret box (none there), page 20 what isn't there, page 21 the box 5, page 22 the segment 16, in a box where it isn't.
func mapped(t *testing.T) *kern.Kernel {
	t.Helper()
	k := peopled(t)
	makes(t, k, 3, api.Call{Op: api.CallCell, P: at(5, 0), L: of("{1}"), A: 200, B: 192}, 50)
	errno(t, "Fill", k.Fill(10, "0123456789abcdef"), api.OK)
	errno(t, "Fill", k.Fill(50, strings.Repeat("x", 64)+strings.Repeat("y", 64)+strings.Repeat("z", 64)), api.OK)
	errno(t, "Fill", k.Fill(11, "secret!!"), api.OK)
	errno(t, "Fill", k.Fill(12, "kept..!!"), api.OK)
	errno(t, "Fill", k.Fill(17, "inside"), api.OK)
	for _, m := range []api.Map{
		{At: 0, Pages: 1, In: 1, Id: 10, Write: true},
		{At: 1, Pages: 2, In: 5, Id: 50, From: 1, Write: true},
		{At: 3, Pages: 1, In: 5, Id: 50, Run: true},
		{At: 10, Pages: 1, In: 1, Id: 11, Write: true},
		{At: 11, Pages: 1, In: 1, Id: 12, Write: true},
		{At: 12, Pages: 1, In: 6, Id: 17, Write: true},
		{At: 20, Pages: 1, In: 1, Id: 99, Write: true},
		{At: 21, Pages: 1, In: 1, Id: 5, Write: true},
		{At: 22, Pages: 1, In: 1, Id: 16, Write: true},
	} {
		does(t, k, 3, api.Call{Op: api.CallMap, P: at(1, 13), Map: m}, 0, api.Told{})
	}
	for _, thread := range []int{3, 30, 31} {
		does(t, k, thread, api.Call{Op: api.CallAim, Q: at(1, 13)}, 0, api.Told{})
	}
	return k
}

func TestLoad(t *testing.T) {
	k := mapped(t)
	unchanged(t, k, func() {
		loads(t, k, 30, 0, api.ToRead, "0123456789abcdef")
		loads(t, k, 30, 15, api.ToWrite, "f")
		loads(t, k, 30, 64, api.ToRead, strings.Repeat("y", 64)+strings.Repeat("z", 64)+strings.Repeat("x", 64))
		loads(t, k, 30, 127, api.ToWrite, "yz")
		loads(t, k, 30, 192, api.ToRun, strings.Repeat("x", 64))
		loads(t, k, 30, 11*64, api.ToRead, "kept..!!")
		loads(t, k, 31, 10*64, api.ToRead, "secret!!")
		loads(t, k, 31, 0, api.ToRead, "012")
		loads(t, k, 31, 12*64, api.ToRead, "inside")
		loads(t, k, 3, 12*64+5, api.ToRead, "e")
	})
}

func TestLoadErrors(t *testing.T) {
	k := mapped(t)
	for _, x := range []struct {
		addr    uint64
		n, need int
	}{
		{0, 17, api.ToRead}, {16, 1, api.ToRead}, {63, 2, api.ToRead}, {15, 2, api.ToWrite}, // beyond the segment's bytes
		{0, 4, api.ToRun}, {64, 1, api.ToRun}, {191, 2, api.ToRun}, {191, 2, api.ToWrite}, {192, 1, api.ToWrite}, // not so
		{256, 1, api.ToRead}, {255, 2, api.ToRead}, {1<<64 - 1, 1, api.ToRead}, {1<<64 - 1, 2, api.ToRead}, // not mapped
		{10 * 64, 1, api.ToRead}, {12 * 64, 1, api.ToRead}, // not seen
		{20 * 64, 1, api.ToRead}, {21 * 64, 1, api.ToRead}, {22 * 64, 1, api.ToRead}, // no such segment
		{0, 0, api.ToRead}, {0, -1, api.ToRead}, {0, 4097, api.ToRead}, {0, least, api.ToRead}, {0, highest, api.ToRead},
		{0, 1, -1}, {0, 1, 3}, {0, 1, least}, {0, 1, highest},
	} {
		unloaded(t, k, 30, x.addr, x.n, x.need, api.ErrFault)
	}
}

func TestStore(t *testing.T) {
	k := mapped(t)
	errno(t, "Store", k.Store(30, 1, "AB"), api.OK)
	bytesOf(t, k, 10, "0AB3456789abcdef")
	errno(t, "Store", k.Store(30, 126, "abcd"), api.OK)
	bytesOf(t, k, 50, strings.Repeat("x", 64)+strings.Repeat("y", 62)+"abcd"+strings.Repeat("z", 62))
	errno(t, "Store", k.Store(3, 11*64+7, "?"), api.OK)
	bytesOf(t, k, 12, "kept..!?")
	errno(t, "Store", k.Store(31, 10*64, "S"), api.OK)
	bytesOf(t, k, 11, "Secret!!")
	errno(t, "Store", k.Store(31, 12*64, "I"), api.OK)
	bytesOf(t, k, 17, "Inside")
	right(t, k)
}

func TestStoreErrors(t *testing.T) {
	k := mapped(t)
	for _, x := range []struct {
		thread int
		addr   uint64
		s      string
	}{
		{30, 16, "a"}, {30, 15, "ab"}, {30, 63, "ab"}, {30, 192, "a"}, {30, 191, "ab"}, {30, 256, "a"}, {30, 1<<64 - 1, "a"}, {30, 1<<64 - 1, "ab"},
		{30, 10 * 64, "a"}, {30, 11 * 64, "a"}, {30, 12 * 64, "a"}, {30, 20 * 64, "a"}, {30, 21 * 64, "a"}, {30, 22 * 64, "a"},
		{30, 0, strings.Repeat("a", 4097)}, {30, 64, strings.Repeat("a", 129)},
		{31, 0, "a"}, {31, 64, "a"}, {31, 11 * 64, "a"}, // it sees, but doesn't alter
	} {
		unstored(t, k, x.thread, x.addr, x.s, api.ErrFault)
	}
}

// TestStoreWhole: what can't be stored whole isn't stored at all, in whichever piece it fails.
func TestStoreWhole(t *testing.T) {
	k := mapped(t)
	does(t, k, 3, api.Call{Op: api.CallMap, P: at(1, 13), Map: api.Map{At: 9, Pages: 1, In: 5, Id: 50, Write: true}}, 0, api.Told{})
	unstored(t, k, 30, 10*64-2, "abcd", api.ErrFault)                    // the secret behind
	unstored(t, k, 31, 10*64-2, "abcd", api.ErrFault)                    // not altered ahead
	unstored(t, k, 3, 10*64+6, strings.Repeat("a", 100), api.ErrFault)   // beyond the bytes of the first
	unstored(t, k, 3, 9*64, strings.Repeat("a", 64+9), api.ErrFault)     // beyond those of the second
	errno(t, "Store", k.Store(3, 9*64, strings.Repeat("a", 72)), api.OK) // all there are
	bytesOf(t, k, 11, "aaaaaaaa")
	loads(t, k, 3, 9*64, api.ToRead, strings.Repeat("a", 72))
}

// TestStoreOver: where two mappings are of one segment, what comes later stays.
func TestStoreOver(t *testing.T) {
	k := mapped(t)
	does(t, k, 3, api.Call{Op: api.CallMap, P: at(1, 13), Map: api.Map{At: 30, Pages: 1, In: 5, Id: 50, Write: true}}, 0, api.Told{})
	does(t, k, 3, api.Call{Op: api.CallMap, P: at(1, 13), Map: api.Map{At: 31, Pages: 1, In: 5, Id: 50, Write: true}}, 0, api.Told{})
	errno(t, "Store", k.Store(3, 30*64, strings.Repeat("a", 64)+strings.Repeat("b", 32)), api.OK)
	loads(t, k, 3, 30*64, api.ToRead, strings.Repeat("b", 32)+strings.Repeat("a", 32))
}

// TestNoMemory: a thread whose Ref names no address space that it sees has no memory; nothing may always be stored.
func TestNoMemory(t *testing.T) {
	k := mapped(t)
	secret := api.Map{At: 0, Pages: 1, In: 1, Id: 10, Write: true}
	does(t, k, 3, api.Call{Op: api.CallMap, P: at(1, 14), Map: secret}, 0, api.Told{})
	list := append(unnamed(), at(1, 14), at(1, 10), at(1, 5), at(1, 2), at(1, 3), at(1, 15), at(5, 13))
	for _, r := range list {
		does(t, k, 30, api.Call{Op: api.CallAim, Q: r}, 0, api.Told{})
		unloaded(t, k, 30, 0, 1, api.ToRead, api.ErrFault)
		unstored(t, k, 30, 0, "a", api.ErrFault)
		unstored(t, k, 30, 1<<64-1, "", api.OK)
	}
	does(t, k, 31, api.Call{Op: api.CallAim, Q: at(1, 14)}, 0, api.Told{})
	loads(t, k, 31, 0, api.ToRead, "0")
	does(t, k, 3, api.Call{Op: api.CallUnmap, P: at(1, 13)}, 0, api.Told{})
	unloaded(t, k, 3, 0, 1, api.ToRead, api.ErrFault)
	unstored(t, k, 3, 0, "", api.OK)
}

// TestMemoryOfTheDead: a thread that isn't there, waits or stopped has no memory.
func TestMemoryOfTheDead(t *testing.T) {
	k := mapped(t)
	does(t, k, 30, api.Call{Op: api.CallWait, P: at(1, 10), A: 8, B: 0x6665646362613938}, 0, api.Told{})
	does(t, k, 31, api.Call{Op: api.CallHalt}, 0, api.Told{})
	for _, thread := range append(wrongNumbers(), 1, 2, 10, 13, 30, 31, 99) {
		for _, addr := range []uint64{0, 1 << 40} {
			unloaded(t, k, thread, addr, 1, api.ToRead, api.ErrDead)
			unloaded(t, k, thread, addr, -1, 7, api.ErrDead)
			unstored(t, k, thread, addr, "a", api.ErrDead)
			unstored(t, k, thread, addr, "", api.ErrDead)
		}
	}
}

// TestRaisedMemory: who raises itself may load what it sees then, and store no more where it may not.
func TestRaisedMemory(t *testing.T) {
	k := mapped(t)
	makes(t, k, 3, api.Call{Op: api.CallFlow, P: at(1, 0), Q: at(1, 13), L: of("{1}"), M: of("{3}"), A: 1}, 60)
	unloaded(t, k, 60, 10*64, 8, api.ToRead, api.ErrFault)
	errno(t, "Store", k.Store(60, 0, "!"), api.OK)
	does(t, k, 60, api.Call{Op: api.CallRise, L: of("{1 20:3}")}, 0, api.Told{})
	loads(t, k, 60, 10*64, api.ToRead, "secret!!")
	unstored(t, k, 60, 0, "s", api.ErrFault)
}
