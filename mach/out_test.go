package mach_test

import (
	"strings"
	"testing"

	"gatehouse/api"
	"gatehouse/kern"
)

// word is a small number as eight bytes.
func word(n ...byte) string {
	s := ""
	for _, x := range n {
		s += string([]byte{x}) + "\x00\x00\x00\x00\x00\x00\x00"
	}
	return s
}

// told is a call with an out, by the thread 3 of a furnished kernel.
type told struct {
	c   api.Call
	n   uint64
	out string
}

// outs are calls with their answers.
func outs() []told {
	return []told{
		{api.Call{Op: api.CallRead, P: at(1, 13), A: 8, B: 5}, 0, "89012"},
		{api.Call{Op: api.CallRead, P: at(1, 13)}, 0, ""},
		{api.Call{Op: api.CallHear, P: at(1, 2), A: 7}, 0, "put int"},
		{api.Call{Op: api.CallHear, P: at(1, 2), A: highest}, 0, "put into"},
		{api.Call{Op: api.CallHear, P: at(1, 2)}, 0, ""},
		{api.Call{Op: api.CallList, P: at(5, 99)}, 0, word(17, 32)},
		{api.Call{Op: api.CallList, P: at(40, 0)}, 0, ""},
		{api.Call{Op: api.CallLook, P: at(1, 12)}, api.Segment, "\x02\x01" + word(20) + "\x04" + "\xf4\x01\x00\x00\x00\x00\x00\x00"},
		{api.Call{Op: api.CallLook, P: at(1, 2)}, api.Device, "\x02\x00" + word(1)},
		{api.Call{Op: api.CallSelf}, 3, "\x02\x01" + word(20) + "\x00" + "\x04\x00"},
		{api.Call{Op: api.CallMapped, P: at(1, 41)}, 0, word(3, 2, 5, 17, 1, 1) + word(7, 1, 1, 10, 0, 2) + word(9, 1, 8, 9, 63, 3) + word(10, 64, 1, 1, 0, 0)},
		{api.Call{Op: api.CallMapped, P: at(1, 42)}, 0, ""},
	}
}

// telling answers a furnished kernel with what outs ask for: the empty box 40, the address spaces 41 and 42, and bytes in the console.
func telling(t *testing.T) *kern.Kernel {
	t.Helper()
	k := furnished(t)
	do := doer(t, k)
	do(api.Call{Op: api.CallBox, P: at(1, 0), L: of("{1}"), A: 10}, 40)
	do(api.Call{Op: api.CallSpace, P: at(1, 0), L: of("{1}"), A: 1}, 41)
	do(api.Call{Op: api.CallSpace, P: at(1, 0), L: of("{1}"), A: 1}, 42)
	for _, m := range []api.Map{
		{At: 10, Pages: 64, In: 1, Id: 1}, {At: 9, Pages: 1, In: 8, Id: 9, From: 63, Write: true, Run: true},
		{At: 7, Pages: 1, In: 1, Id: 10, Run: true}, {At: 3, Pages: 2, In: 5, Id: 17, From: 1, Write: true},
	} {
		do(api.Call{Op: api.CallMap, P: at(1, 41), Map: m}, 0)
	}
	k.Put(2, "put into")
	k.Fill(11, strings.Repeat("-", 4096))
	return k
}

// TestOuts: the first R[11] bytes of an answer are stored, R[2] is how many it has; behind them memory stays.
func TestOuts(t *testing.T) {
	for _, x := range outs() {
		size := uint64(len(x.out))
		for _, many := range []uint64{0, 1, 5, max(size, 1) - 1, size, size + 1, 300, 4096} {
			k := telling(t)
			does(t, k, 3, regs(x.c, 0, 0, data, many), 0, x.n, size)
			stored := x.out[:min(size, many)]
			bytesOf(t, k, 11, 0, stored+strings.Repeat("-", 4096-len(stored)))
			if o, _ := k.Object(2); x.c.Op == api.CallHear && o.Heard != "put into"[size:] {
				t.Errorf("%q wasn't heard of %q", o.Heard, x.out)
			}
		}
	}
}

// TestOutPlaces: an answer may be stored in several segments, and where the answer is of.
func TestOutPlaces(t *testing.T) {
	k := telling(t)
	read := func(id, from, n int, addr, many uint64) api.State {
		return regs(api.Call{Op: api.CallRead, P: at(1, id), A: from, B: n}, 0, 0, addr, many)
	}
	does(t, k, 30, read(13, 0, 9, more-4, 9), 0, 0, 9)
	bytesOf(t, k, 11, 4091, "-0123")
	bytesOf(t, k, 14, 0, "45678ore")
	does(t, k, 30, read(14, 0, 128, again+1, 127), 0, 0, 128)
	bytesOf(t, k, 14, 0, "445678oremore")
	does(t, k, 30, read(13, 10, 80, farEnd-9, 10), 0, 0, 80)
	bytesOf(t, k, 11, 4085, "-0123456789")
	does(t, k, 30, read(13, 0, 70, twice, 70), 0, 0, 70) // the first page another time: what comes later stands there
	bytesOf(t, k, 14, 0, "456789678901")
	bytesOf(t, k, 14, 60, "0123emor")
	does(t, k, 31, regs(api.Call{Op: api.CallSelf}, 0, 0, secret+245, 11), 0, 31, 13)
	bytesOf(t, k, 12, 245, "\x02\x01"+word(20)+"\x04")
}

// TestNoRoom: where R[11] bytes can't be stored the call isn't done, however few the answer would have; none can always be.
func TestNoRoom(t *testing.T) {
	type place struct{ addr, many uint64 }
	faults := []place{
		{0, 1}, {codes, 2}, {short, 1}, {mores, 2}, {mores - 6, 8}, {labels, 64}, {secret, 1}, {shut, 1}, {nowhere, 1}, {data + 4000, 4096},
		{farEnd, 2}, {beyond, 1}, {last, 1}, {last, 2}, {last - 4095, 4096}, {1 << 63, 8}, {secret - 1, 1}, {again + 127, 130},
	}
	args := []place{{data, 4097}, {nowhere, 4097}, {data, 1 << 32}, {data, 1 << 63}, {data, last}}
	for _, x := range outs() {
		k := telling(t)
		if x.c.Op == api.CallLook || x.c.Op == api.CallSelf {
			x.c.P = at(1, 2)
		}
		for _, p := range faults {
			refuses(t, k, 30, regs(x.c, 0, 0, p.addr, p.many), 0, api.ErrFault)
		}
		for _, p := range args {
			refuses(t, k, 30, regs(x.c, 0, 0, p.addr, p.many), 0, api.ErrArg)
		}
		refuses(t, k, 31, regs(x.c, 0, 0, data, 1), 0, api.ErrFault) // it sees it, but doesn't alter it
		if x.c.Op != api.CallHear {
			for _, addr := range []uint64{0, nowhere, short, secret, last} {
				if e, _ := sys(t, k, 30, regs(x.c, 0, 0, addr, 0), 0); e != api.OK {
					t.Errorf("%+v, no bytes at %d: error %d", x.c, addr, e)
				}
			}
		}
	}
}

// TestLongList: an answer may have more bytes than can be stored.
func TestLongList(t *testing.T) {
	k := telling(t)
	do := doer(t, k)
	for id := range 600 {
		do(api.Call{Op: api.CallSpace, P: at(5, 0), L: of("{1}"), A: 1}, 1000+id)
	}
	list := regs(api.Call{Op: api.CallList, P: at(5, 0)}, 0, 0, data, 4096)
	does(t, k, 30, list, 0, 0, 8*602)
	bytesOf(t, k, 11, 0, word(17, 32)+"\xe8\x03\x00\x00\x00\x00\x00\x00\xe9\x03")
	bytesOf(t, k, 11, 4088, "\xe5\x05\x00\x00\x00\x00\x00\x00")
	list.R[11] = 4097
	refuses(t, k, 30, list, 0, api.ErrArg)
}
