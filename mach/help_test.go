package mach_test

import (
	"fmt"
	"slices"
	"strings"
	"testing"

	"gatehouse/api"
	"gatehouse/isa"
	"gatehouse/kern"
	"gatehouse/label"
	"gatehouse/mach"
)

const (
	least   = -1 << 63
	highest = 1<<63 - 1
	last    = 1<<64 - 1
)

// Addresses in the address space 15 of a furnished kernel: what is mapped there, and its end.
const (
	code    = 0                    // segment 10, to run, all sys; behind it at once comes data
	data    = 64 * 64              // segment 11, to write; behind it at once comes more
	more    = 128 * 64             // segment 14, to write; behind it at once comes short
	short   = 130 * 64             // segment 13, to read alone, of 100 bytes
	secret  = 200 * 64             // segment 12, to write
	again   = 210 * 64             // segment 14, to write and run
	twice   = 212 * 64             // segment 14's first page, to write; behind it at once it comes another time
	labels  = 300 * 64             // segment 18, to read alone
	far     = (1<<26 - 1) * 64     // the last page of segment 11, to write
	beyond  = 1 << 32              // no address is mapped from there on
	shut    = 500 * 64             // an entry of the secret box 6, to write
	nowhere = 400 * 64             // nothing is mapped
	shorts  = short + 100          // where the bytes of short end
	ends    = labels + 4096        // where labels end
	mores   = short - 1            // the last byte of more
	datas   = more - 1             // the last byte of data
	farEnd  = beyond - 1           // the last byte that can be mapped
	codes   = data - 1             // the last byte of code
	first   = labels + 64*firstRow // where the first label stands
)

// firstRow is the place of the first label in labels, in pages: ahead of it there are noughts, which are the label {*}.
const firstRow = 1

// of answers the label of a text.
func of(s string) api.Label {
	l, e := label.Parse(s)
	if e != api.OK {
		panic(s)
	}
	return l
}

// at names an entry of a container.
func at(in, id int) api.Ref { return api.Ref{In: in, Id: id} }

// built answers the bytes of a program.
func built(t *testing.T, text string) string {
	t.Helper()
	s, line, e := isa.Build(text)
	if e != api.OK {
		t.Fatalf("line %d of %q: error %d", line, text, e)
	}
	return s
}

// written are labels that stand one behind the other in a furnished kernel, each from a page's first byte on, from the address first on.
func written() []string {
	list := []string{
		label.Bytes(of("{1}")), label.Bytes(of("{1 20:3}")), label.Bytes(of("{2}")), label.Bytes(of("{3}")), label.Bytes(of("{1 20:*}")),
		label.Bytes(of("{2 20:3}")), label.Bytes(of("{1 20:0}")), label.Bytes(of("{J}")), label.Bytes(of("{1 5:3 20:3 22:0}")),
		"\x06\x00", "\x02\x01\x14\x00\x00\x00\x00\x00\x00\x00\x02", "\x02\x01\x00\x00\x00\x00\x00\x00\x00\x00\x04", "\x02\x11", "\xff\xff", "\x02\x02\x14\x00\x00\x00\x00\x00\x00\x00\x04\x14\x00\x00\x00\x00\x00\x00\x00\x04",
	}
	return list
}

// Places in written.
const (
	isOne = iota
	isSecret
	isTwo
	isThree
	isOwner
	isCleared
	isKept
	isHigh
	isLong
	isNone
	isSame
	isNoCat
	isSeventeen
	isMost
	isDouble
)

// labelAt answers where one of written stands.
func labelAt(i int) uint64 { return uint64(first + 64*i) }

// labelBytes answers the bytes of the segment 18: the labels, and at its end one that goes on behind it.
func labelBytes() string {
	row := make([]byte, 4096)
	for i, s := range written() {
		copy(row[64*(firstRow+i):], s)
	}
	row[4094], row[4095] = api.L1, 1
	return string(row)
}

// doer does calls of the thread 3 that must go well.
func doer(t *testing.T, k *kern.Kernel) func(c api.Call, draw int) {
	t.Helper()
	return func(c api.Call, draw int) {
		t.Helper()
		if _, e := k.Do(3, c, draw); e != api.OK {
			t.Fatalf("%+v, draw %d: error %d", c, draw, e)
		}
	}
}

// furnished answers a kernel with the root 1, the console 2, and threads whose address space is 15: 3 and 32 {1 20:*} (clearances {3}), 30 {1} (clearance {2}), 31 {1 20:3} (clearance {3}). 32 stands in the box 5 {1}, the others in the root; the box 6 is secret {1 20:3}. The gate 16 {1 20:*} has the clearance {3} and leads to 400.
func furnished(t *testing.T) *kern.Kernel {
	t.Helper()
	k, e := kern.New(api.Boot{Root: 1, Console: 2, Thread: 3})
	if e != api.OK {
		t.Fatal("no kernel", e)
	}
	do, root, one := doer(t, k), at(1, 0), of("{1}")
	do(api.Call{Op: api.CallOwn}, 20)
	do(api.Call{Op: api.CallBox, P: root, L: one, A: 20000}, 5)
	do(api.Call{Op: api.CallBox, P: root, L: of("{1 20:3}"), A: 5000}, 6)
	do(api.Call{Op: api.CallCell, P: root, L: one, A: 5000, B: 4096}, 10)
	do(api.Call{Op: api.CallCell, P: root, L: one, A: 5000, B: 4096}, 11)
	do(api.Call{Op: api.CallCell, P: root, L: of("{1 20:3}"), A: 500, B: 256}, 12)
	do(api.Call{Op: api.CallCell, P: root, L: one, A: 100, B: 100}, 13)
	do(api.Call{Op: api.CallCell, P: root, L: one, A: 200, B: 128}, 14)
	do(api.Call{Op: api.CallSpace, P: root, L: one, A: 1}, 15)
	do(api.Call{Op: api.CallDoor, P: root, Q: at(1, 15), L: of("{1 20:*}"), M: of("{3}"), A: 1, B: 400}, 16)
	do(api.Call{Op: api.CallCell, P: at(5, 0), L: one, A: 200, B: 64}, 17)
	do(api.Call{Op: api.CallCell, P: root, L: one, A: 5000, B: 4096}, 18)
	do(api.Call{Op: api.CallCell, P: at(6, 0), L: of("{1 20:3}"), A: 200, B: 64}, 19)
	do(api.Call{Op: api.CallFlow, P: root, Q: at(1, 15), L: one, M: of("{2}"), A: 1}, 30)
	do(api.Call{Op: api.CallFlow, P: root, Q: at(1, 15), L: of("{1 20:3}"), M: of("{3}"), A: 1}, 31)
	do(api.Call{Op: api.CallFlow, P: at(5, 0), Q: at(1, 15), L: of("{1 20:*}"), M: of("{3}"), A: 1}, 32)
	do(api.Call{Op: api.CallAim, Q: at(1, 15)}, 0)
	for _, m := range []api.Map{
		{At: code / 64, Pages: 64, In: 1, Id: 10, Run: true}, {At: data / 64, Pages: 64, In: 1, Id: 11, Write: true},
		{At: more / 64, Pages: 2, In: 1, Id: 14, Write: true}, {At: short / 64, Pages: 2, In: 1, Id: 13},
		{At: secret / 64, Pages: 4, In: 1, Id: 12, Write: true}, {At: again / 64, Pages: 2, In: 1, Id: 14, Write: true, Run: true},
		{At: twice / 64, Pages: 1, In: 1, Id: 14, Write: true}, {At: twice/64 + 1, Pages: 1, In: 1, Id: 14, Write: true},
		{At: labels / 64, Pages: 64, In: 1, Id: 18}, {At: shut / 64, Pages: 1, In: 6, Id: 19, Write: true}, {At: far / 64, Pages: 1, In: 1, Id: 11, From: 63, Write: true},
	} {
		do(api.Call{Op: api.CallMap, P: at(1, 15), Map: m}, 0)
	}
	k.Fill(10, strings.Repeat(built(t, "sys"), 1024))
	k.Fill(13, strings.Repeat("0123456789", 10))
	k.Fill(14, strings.Repeat("more", 32))
	k.Fill(18, labelBytes())
	return k
}

// regs are a call in registers: what stands in R[0] to R[7], and in R[8] to R[11]; the others are all unlike.
func regs(c api.Call, l, m, addr, many uint64) api.State {
	st := api.State{R: [api.Regs]uint64{uint64(c.Op), uint64(c.P.In), uint64(c.P.Id), uint64(c.Q.In), uint64(c.Q.Id), uint64(c.A), uint64(c.B), uint64(c.C), l, m, addr, many}}
	for i := 12; i < api.Regs; i++ {
		st.R[i] = uint64(1000 + i)
	}
	return st
}

// event is that of a sys.
func event(thread, op int, e api.Errno) api.Event {
	return api.Event{Thread: thread, What: api.Called, Op: op, Err: e}
}

// sys lets a thread of the kernel do a sys with these registers, holds it against the model, and answers its error and its state then.
func sys(t *testing.T, k *kern.Kernel, thread int, st api.State, draw int) (api.Errno, api.State) {
	t.Helper()
	if e := k.SetState(thread, st); e != api.OK {
		t.Fatal("no state of", thread, e)
	}
	pick := api.Pick{Thread: thread, Draw: draw}
	ought := k.Copy()
	want := model(ought, pick)
	got := mach.New(k).Step(pick)
	if wrong := unlike(k, ought); got != want || wrong != "" {
		t.Errorf("%+v: %+v, not %+v: %s", st, got, want, wrong)
	}
	if got != event(thread, int(st.R[0]), got.Err) {
		t.Errorf("%+v: %+v", st, got)
	}
	o, _ := k.Object(thread)
	return got.Err, o.State
}

// does lets a thread do a sys that is to go well, with these numbers in R[1] and R[2] behind it.
func does(t *testing.T, k *kern.Kernel, thread int, st api.State, draw int, n, out uint64) {
	t.Helper()
	e, got := sys(t, k, thread, st, draw)
	want := st
	want.Pc, want.R[0], want.R[1], want.R[2] = st.Pc+4, 0, n, out
	if e != api.OK || got != want {
		t.Errorf("%+v: error %d, %+v, not %+v", st, e, got, want)
	}
}

// refuses lets a thread do a sys that is to answer this error, and to change nothing but R[0] and Pc.
func refuses(t *testing.T, k *kern.Kernel, thread int, st api.State, draw int, want api.Errno) {
	t.Helper()
	ought := k.Copy()
	after := st
	after.Pc, after.R[0] = st.Pc+4, uint64(want)
	ought.SetState(thread, after)
	e, _ := sys(t, k, thread, st, draw)
	if wrong := unlike(k, ought); e != want || wrong != "" {
		t.Errorf("%+v: error %d, not %d: %s", st, e, want, wrong)
	}
}

// bytesOf tells whether a segment has these bytes from a place on.
func bytesOf(t *testing.T, k *kern.Kernel, id, from int, want string) {
	t.Helper()
	o, _ := k.Object(id)
	if got := o.Bytes[from:min(len(o.Bytes), from+len(want))]; got != want {
		t.Errorf("the bytes of %d from %d on are %q, not %q", id, from, got, want)
	}
}

func sameLabel(a, b api.Label) bool { return a.Def == b.Def && slices.Equal(a.Cats, b.Cats) }

func sameObject(a, b api.Object) bool {
	return a.Id == b.Id && a.Kind == b.Kind && a.Quota == b.Quota && a.Used == b.Used && a.Links == b.Links && sameLabel(a.Label, b.Label) &&
		slices.Equal(a.List, b.List) && a.Bytes == b.Bytes && slices.Equal(a.Maps, b.Maps) && sameLabel(a.Clear, b.Clear) && a.Space == b.Space && a.State == b.State &&
		a.Entry == b.Entry && a.Does == b.Does && a.Seg == b.Seg && a.Off == b.Off && slices.Equal(a.Alerts, b.Alerts) && a.Heard == b.Heard && a.Out == b.Out
}

// unlike tells in what two kernels aren't the same; of numbers that were drawn, those that tests draw.
func unlike(a, b *kern.Kernel) string {
	if !slices.Equal(a.Ids(), b.Ids()) || a.Ticks() != b.Ticks() {
		return fmt.Sprint(a.Ids(), a.Ticks(), " not ", b.Ids(), b.Ticks())
	}
	for _, id := range a.Ids() {
		x, _ := a.Object(id)
		y, _ := b.Object(id)
		if !sameObject(x, y) {
			return fmt.Sprintf("%+v, not %+v", x, y)
		}
	}
	for n := range 1000 {
		if a.Drawn(n) != b.Drawn(n) {
			return fmt.Sprint("drawn: ", n, a.Drawn(n))
		}
	}
	return ""
}

// dice is a row of numbers that look like chance, the same each time.
type dice uint64

func (d *dice) roll(n int) int {
	*d = *d*6364136223846793005 + 1442695040888963407
	return int(uint64(*d) >> 33 % uint64(n))
}

// pick answers one of a few.
func pick[T any](d *dice, some ...T) T { return some[d.roll(len(some))] }
