package kern_test

import (
	"fmt"
	"reflect"
	"slices"
	"testing"

	"gatehouse/api"
	"gatehouse/kern"
	"gatehouse/label"
)

const (
	least   = -1 << 63
	highest = 1<<63 - 1
	bytes   = 4096
)

// Numbers that can't be an object's.
func wrongNumbers() []int { return []int{least, least + 1, -1, 0, api.MaxId + 1, highest} }

// of answers the label of a text.
func of(s string) api.Label {
	l, e := label.Parse(s)
	if e != api.OK {
		panic(s)
	}
	return l
}

// Labels that aren't right, that aren't plain, that aren't free.
func notRight() []api.Label {
	return []api.Label{
		{Def: -1}, {Def: 6}, {Def: least}, {Def: highest},
		{Def: api.L1, Cats: []api.Entry{{Cat: 0, Level: api.L3}}},
		{Def: api.L1, Cats: []api.Entry{{Cat: api.MaxId + 1, Level: api.L3}}},
		{Def: api.L1, Cats: []api.Entry{{Cat: 20, Level: api.L1}}},
		{Def: api.L1, Cats: []api.Entry{{Cat: 20, Level: 6}}},
		{Def: api.L1, Cats: []api.Entry{{Cat: 21, Level: api.L3}, {Cat: 20, Level: api.L3}}},
		{Def: api.L1, Cats: []api.Entry{{Cat: 20, Level: api.L3}, {Cat: 20, Level: api.L3}}},
		long(17),
	}
}

func notPlain() []api.Label { return append(notRight(), of("{J}"), of("{1 20:J}")) }

func notFree() []api.Label { return append(notPlain(), of("{*}"), of("{1 20:*}"), of("{* 20:3}")) }

// long is a label {1} with n categories from 500 on at L3.
func long(n int) api.Label {
	l := api.Label{Def: api.L1}
	for i := range n {
		l.Cats = append(l.Cats, api.Entry{Cat: 500 + i, Level: api.L3})
	}
	return l
}

func errno(t *testing.T, what string, got, want api.Errno) {
	t.Helper()
	if got != want {
		t.Errorf("%s: error %d, not %d", what, got, want)
	}
}

// begun answers a kernel of the root 1, the console 2, the thread 3.
func begun(t *testing.T) *kern.Kernel {
	t.Helper()
	k, e := kern.New(api.Boot{Root: 1, Console: 2, Thread: 3})
	if e != api.OK || k == nil {
		t.Fatal("no kernel", e)
	}
	return k
}

// same: nil and empty lists are the same.
func same(a, b any) bool { return fmt.Sprintf("%+v", a) == fmt.Sprintf("%+v", b) }

// does does a call that is to go well, and holds its answer against what is wanted.
func does(t *testing.T, k *kern.Kernel, thread int, c api.Call, draw int, want api.Told) {
	t.Helper()
	told, e := k.Do(thread, c, draw)
	if e != api.OK || !same(told, want) {
		t.Errorf("call %+v of %d, draw %d: %+v, error %d, not %+v", c, thread, draw, told, e, want)
	}
}

// makes does a call that makes something of this number.
func makes(t *testing.T, k *kern.Kernel, thread int, c api.Call, draw int) {
	t.Helper()
	does(t, k, thread, c, draw, api.Told{N: draw})
}

// refuses does a call that is to answer this error, and to change nothing.
func refuses(t *testing.T, k *kern.Kernel, thread int, c api.Call, draw int, want api.Errno) {
	t.Helper()
	unchanged(t, k, func() {
		t.Helper()
		told, e := k.Do(thread, c, draw)
		if e != want || !reflect.ValueOf(told).IsZero() {
			t.Errorf("call %+v of %d, draw %d: %+v, error %d, not %d", c, thread, draw, told, e, want)
		}
	})
}

// dump answers all objects.
func dump(k *kern.Kernel) []api.Object {
	var list []api.Object
	for _, id := range k.Ids() {
		o, ok := k.Object(id)
		if !ok {
			panic(fmt.Sprint("no object ", id))
		}
		list = append(list, o)
	}
	return list
}

// state writes out all that is told of a kernel, so that two can be held against each other.
func state(k *kern.Kernel) string {
	s := fmt.Sprint("ticks ", k.Ticks(), "\ndrawn ", drawn(k))
	for _, o := range dump(k) {
		s += fmt.Sprintf("\n%+v", o)
	}
	return s
}

// drawn answers which of the numbers that tests draw were drawn.
func drawn(k *kern.Kernel) []int {
	var list []int
	for n := -2; n < 400; n++ {
		if k.Drawn(n) {
			list = append(list, n)
		}
	}
	for _, n := range append(wrongNumbers(), api.MaxId, api.MaxId-1) {
		if k.Drawn(n) {
			list = append(list, n)
		}
	}
	return list
}

// unchanged tells whether the calls left all as it was.
func unchanged(t *testing.T, k *kern.Kernel, calls func()) {
	t.Helper()
	before := state(k)
	calls()
	if after := state(k); after != before {
		t.Errorf("changed from\n%s\nto\n%s", before, after)
	}
}

// object answers an object that is there.
func object(t *testing.T, k *kern.Kernel, id int) api.Object {
	t.Helper()
	o, ok := k.Object(id)
	if !ok {
		t.Fatal("no object", id)
	}
	return o
}

// bytesOf tells whether a segment has these bytes.
func bytesOf(t *testing.T, k *kern.Kernel, id int, want string) {
	t.Helper()
	if got := object(t, k, id).Bytes; got != want {
		t.Errorf("the bytes of %d are %q, not %q", id, got, want)
	}
}

// doing tells whether the threads do this.
func doing(t *testing.T, k *kern.Kernel, what int, threads ...int) {
	t.Helper()
	for _, id := range threads {
		if o := object(t, k, id); o.Does != what || o.Does != api.Waits && (o.Seg != 0 || o.Off != 0) {
			t.Errorf("thread %d does %d at %d, %d, not %d", id, o.Does, o.Seg, o.Off, what)
		}
	}
}

// at names an entry of a container, in the root, in the box 5.
func at(in, id int) api.Ref { return api.Ref{In: in, Id: id} }

// peopled answers a kernel of all kinds of objects. The thread 3 {1 20:*} (clearance {3}) owns the category 20.
// In the root 1: the console 2; 3; the box 5 {1} of 1000; the segment 10 {1} of 100, with 16 bytes; the secret segment 11 {1 20:3} of 100, with 8 bytes; the kept one 12 {1 20:0} of 100, with 8 bytes; the address spaces 13 {1} and 14 {1 20:3}; the gate 15 {1 20:*}, clearance {2}; the threads 30 {1}, clearance {2}, and 31 {1 20:3}, clearance {3}; the secret box 6 {1 20:3} of 500.
// In the box 5: the segment 16 {1} of 50, without bytes; the thread 32 {1 20:*}, clearance {3}. In the secret box 6: the segment 17 {1 20:3} of 50.
func peopled(t *testing.T) *kern.Kernel {
	t.Helper()
	k := begun(t)
	root := at(1, 0)
	makes(t, k, 3, api.Call{Op: api.CallOwn}, 20)
	makes(t, k, 3, api.Call{Op: api.CallBox, P: root, L: of("{1}"), A: 1000}, 5)
	makes(t, k, 3, api.Call{Op: api.CallBox, P: root, L: of("{1 20:3}"), A: 500}, 6)
	makes(t, k, 3, api.Call{Op: api.CallCell, P: root, L: of("{1}"), A: 100, B: 16}, 10)
	makes(t, k, 3, api.Call{Op: api.CallCell, P: root, L: of("{1 20:3}"), A: 100, B: 8}, 11)
	makes(t, k, 3, api.Call{Op: api.CallCell, P: root, L: of("{1 20:0}"), A: 100, B: 8}, 12)
	makes(t, k, 3, api.Call{Op: api.CallSpace, P: root, L: of("{1}"), A: 1}, 13)
	makes(t, k, 3, api.Call{Op: api.CallSpace, P: root, L: of("{1 20:3}"), A: 1}, 14)
	makes(t, k, 3, api.Call{Op: api.CallDoor, P: root, L: of("{1 20:*}"), M: of("{2}"), A: 1, B: 640, Q: at(1, 13)}, 15)
	makes(t, k, 3, api.Call{Op: api.CallCell, P: at(5, 0), L: of("{1}"), A: 50}, 16)
	makes(t, k, 3, api.Call{Op: api.CallCell, P: at(6, 0), L: of("{1 20:3}"), A: 50}, 17)
	makes(t, k, 3, api.Call{Op: api.CallFlow, P: root, L: of("{1}"), M: of("{2}"), A: 1}, 30)
	makes(t, k, 3, api.Call{Op: api.CallFlow, P: root, L: of("{1 20:3}"), M: of("{3}"), A: 1}, 31)
	makes(t, k, 3, api.Call{Op: api.CallFlow, P: at(5, 0), L: of("{1 20:*}"), M: of("{3}"), A: 1}, 32)
	right(t, k)
	return k
}

// refusal is a call that is to be refused, with its draw.
type refusal struct {
	thread int
	c      api.Call
	draw   int
	want   api.Errno
}

// allRefused does calls that are to be refused; no two hang on each other.
func allRefused(t *testing.T, k *kern.Kernel, op int, list []refusal) {
	t.Helper()
	for _, r := range list {
		r.c.Op = op
		refuses(t, k, r.thread, r.c, r.draw, r.want)
	}
}

// unnamed are Refs that name nothing in a peopled kernel, for a thread that doesn't see the secret box 6.
func unnamed() []api.Ref {
	list := []api.Ref{
		{}, at(1, 1), at(1, 4), at(1, 16), at(1, 17), at(5, 10), at(5, 5), at(4, 10), // no entries
		at(6, 17), at(6, 16), // not seen
		at(2, 2), at(3, 3), at(10, 10), at(15, 10), at(30, 30), at(13, 10), // no containers
	}
	for _, n := range wrongNumbers() {
		list = append(list, at(n, 10), at(1, n), at(n, n))
	}
	return list
}

// noBoxes are numbers of no container that a thread sees that doesn't see the secret box 6.
func noBoxes() []int { return append(wrongNumbers(), 2, 3, 4, 6, 10, 11, 13, 15, 30, 99) }

// dice is a row of numbers that look like chance, the same each time.
type dice uint64

func (d *dice) roll(n int) int {
	*d = *d*6364136223846793005 + 1442695040888963407
	return int(uint64(*d) >> 33 % uint64(n))
}

// pick answers one of a few.
func pick[T any](d *dice, some ...T) T { return some[d.roll(len(some))] }

// right tells whether all is so that is to be so behind every row of calls.
func right(t *testing.T, k *kern.Kernel) {
	t.Helper()
	all := map[int]api.Object{}
	for _, o := range dump(k) {
		all[o.Id] = o
	}
	for _, wrong := range wrongs(all, 1) {
		t.Error(wrong)
	}
}

// wrongs answers what isn't so of objects that is to be so behind every row of calls.
func wrongs(all map[int]api.Object, root int) []string {
	var list []string
	for id, o := range all {
		links := 0
		if id == root {
			links++
		}
		for _, box := range all {
			if slices.Contains(box.List, id) {
				links++
				if wrong := washed(box, o); wrong != "" {
					list = append(list, wrong)
				}
			}
		}
		if o.Id != id || o.Links != links || links == 0 {
			list = append(list, fmt.Sprintf("%d has %d links, not %d", id, o.Links, links))
		}
		if wrong := misshaped(o, all); wrong != "" {
			list = append(list, fmt.Sprintf("%s: %+v", wrong, o))
		}
	}
	if reached(all, root) != len(all) {
		list = append(list, "some can't be reached from the root")
	}
	slices.Sort(list)
	return list
}

// reached answers how many objects can be reached from one on.
func reached(all map[int]api.Object, from int) int {
	seen := map[int]bool{from: true}
	for next := []int{from}; len(next) > 0; next = next[1:] {
		for _, id := range all[next[0]].List {
			if !seen[id] {
				seen[id] = true
				next = append(next, id)
			}
		}
	}
	return len(seen)
}

// washed tells whether an object is less tainted than its container.
func washed(box, o api.Object) string {
	if o.Kind == api.Thread {
		return ""
	}
	cats := []int{-1} // elsewhere
	for _, e := range slices.Concat(box.Label.Cats, o.Label.Cats) {
		cats = append(cats, e.Cat)
	}
	for _, cat := range cats {
		has, in := label.At(o.Label, cat), label.At(box.Label, cat)
		if has != api.Star && in > api.L1 && has < in {
			return fmt.Sprintf("%d %s in %d %s", o.Id, label.Text(o.Label), box.Id, label.Text(box.Label))
		}
	}
	return ""
}

// misshaped tells what of an object alone can't be.
func misshaped(o api.Object, all map[int]api.Object) string {
	owns := o.Kind == api.Thread || o.Kind == api.Gate
	used := 0
	for i, id := range o.List {
		used += all[id].Quota
		if all[id].Id == 0 || slices.Contains(o.List[:i], id) {
			return "an entry that can't be"
		}
	}
	switch {
	case o.Kind < api.Container || o.Kind > api.Device || o.Quota < 1 || o.Quota > api.MaxQuota:
		return "kind or quota"
	case !label.Plain(o.Label) || !owns && !label.Free(o.Label):
		return "label"
	case owns && (!label.Free(o.Clear) || !label.Leq(o.Label, o.Clear)):
		return "clearance"
	case o.Used != used || o.Used > o.Quota:
		return "used"
	case len(o.Bytes) > o.Quota || len(o.Bytes) > bytes:
		return "bytes"
	case !rightRow(o.Maps):
		return "mappings"
	case len(o.Heard) > api.MaxLine || len(o.Out) > api.MaxLine || len(o.Alerts) > api.MaxAlerts:
		return "too much"
	case o.Does == api.Waits && (all[o.Seg].Kind != api.Segment || len(o.Alerts) > 0 || o.Off < 0 || o.Off >= bytes):
		return "waits where nothing is, or with alerts"
	case o.Does != api.Waits && (o.Seg != 0 || o.Off != 0):
		return "is somewhere without waiting"
	}
	return foreign(o)
}

// rightRow tells whether mappings can be: none over another, all within their bounds.
func rightRow(row []api.Map) bool {
	last := 0
	for _, m := range row {
		if m.At < last || m.Pages < 1 || m.Pages > 64 || m.From < 0 || m.From > 64-m.Pages || m.At > 1<<26-m.Pages || m.In < 1 || m.Id < 1 || m.In > api.MaxId || m.Id > api.MaxId {
			return false
		}
		last = m.At + m.Pages
	}
	return len(row) <= 16
}

// foreign tells whether an object has what its kind hasn't.
func foreign(o api.Object) string {
	rest := o
	rest.Info = api.Info{}
	switch o.Kind {
	case api.Container:
		rest.List = nil
	case api.Segment:
		rest.Bytes = ""
	case api.Space:
		rest.Maps = nil
	case api.Gate:
		rest.Clear, rest.Space, rest.Entry = api.Label{}, api.Ref{}, 0
	case api.Thread:
		rest.Clear, rest.Space, rest.State, rest.Does, rest.Seg, rest.Off, rest.Alerts = api.Label{}, api.Ref{}, api.State{}, 0, 0, 0, nil
	case api.Device:
		rest.Heard, rest.Out = "", ""
	}
	if !same(rest, api.Object{}) {
		return "what its kind hasn't"
	}
	return ""
}
