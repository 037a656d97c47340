package fds_test

import (
	"fmt"
	"slices"
	"strings"
	"testing"

	"gatehouse/api"
	"gatehouse/audit"
	"gatehouse/fds"
	"gatehouse/files"
	"gatehouse/kern"
	"gatehouse/label"
	"gatehouse/view"
)

const (
	least   = -1 << 63
	highest = 1<<63 - 1
)

// The threads of a furnished kernel.
const (
	owner   = 3  // {1 20:*}, clearance {3}
	low     = 30 // {1}, clearance {2}
	tainted = 31 // {1 20:3}, clearance {3}
	kept    = 32 // {1 20:0}, clearance {3}: it doesn't see what is {1}
	ended   = 33 // {1}, stopped
	second  = 34 // {1}, clearance {2}
	narrow  = 35 // {1 20:*}, clearance {2}: it alters what is {1 20:3}, and can't make such things
	gone    = 99 // there is none
)

// of answers the label of a text.
func of(s string) api.Label {
	l, e := label.Parse(s)
	if e != api.OK {
		panic(s)
	}
	return l
}

func at(in, id int) api.Ref { return api.Ref{In: in, Id: id} }

// by is a thread without a number drawn for it.
func by(thread int) api.Whence { return api.Whence{Thread: thread} }

func errno(t *testing.T, what string, got, want api.Errno) {
	t.Helper()
	if got != want {
		t.Errorf("%s: error %d, not %d", what, got, want)
	}
}

// bench is a kernel with files and families in it, and the next number that is drawn.
type bench struct {
	*fds.Table // the first table of the family {1}
	f          *files.Files
	k          *kern.Kernel
	next       int
}

// draw answers a thread with numbers that nobody had.
func (b *bench) draw(thread int) api.Whence {
	b.next += 10
	return api.Whence{Thread: thread, Draw: b.next}
}

// ask does a kernel's call of a thread that is to go well.
func (b *bench) ask(t *testing.T, thread int, c api.Call) api.Told {
	t.Helper()
	told, e := b.k.Do(thread, c, b.draw(thread).Draw)
	if e != api.OK {
		t.Fatalf("call %+v of %d: error %d", c, thread, e)
	}
	return told
}

// populated answers a kernel of the root 1, the console 2 and the threads above.
func populated(t *testing.T) *kern.Kernel {
	t.Helper()
	k, _ := kern.New(api.Boot{Root: 1, Console: 2, Thread: owner})
	do := func(thread, draw int, c api.Call) {
		t.Helper()
		c.P, c.A = at(1, 0), 1
		if _, e := k.Do(thread, c, draw); e != api.OK {
			t.Fatalf("%+v: error %d", c, e)
		}
	}
	do(owner, 20, api.Call{Op: api.CallOwn})
	for _, x := range []struct {
		id       int
		l, clear string
	}{{low, "{1}", "{2}"}, {tainted, "{1 20:3}", "{3}"}, {kept, "{1 20:0}", "{3}"}, {ended, "{1}", "{2}"}, {second, "{1}", "{2}"}, {narrow, "{1 20:*}", "{2}"}} {
		do(owner, x.id, api.Call{Op: api.CallFlow, L: of(x.l), M: of(x.clear)})
	}
	do(ended, 0, api.Call{Op: api.CallHalt})
	return k
}

// bare answers a populated kernel with an empty root directory 10 {1}, and a family {1} with the home 600 and the table 601, that has room for much.
func bare(t *testing.T) *bench { return roomy(t, 1<<16) }

// roomy is bare, with this quota of the family.
func roomy(t *testing.T, quota int) *bench {
	t.Helper()
	k := populated(t)
	f, e := files.Boot(k, api.Whence{Thread: owner, Draw: 10}, 1, of("{1}"), 1<<20)
	errno(t, "Boot of files", e, api.OK)
	b := &bench{f: f, k: k, next: 1000}
	b.Table = b.family(t, 600, "{1}", quota)
	return b
}

// family lets the owner make a family, whose home has this number.
func (b *bench) family(t *testing.T, home int, l string, quota int) *fds.Table {
	t.Helper()
	x, e := fds.Boot(b.f, b.k, api.Whence{Thread: owner, Draw: home}, 1, of(l), quota)
	if e != api.OK || x == nil {
		t.Fatal("Boot", e)
	}
	return x
}

// furnished answers a bench with files, each named by the first letter of who may what: /a {1} "hello", /e {1} of no bytes and quota 5000, /s {1 20:3} "secret", /k {1 20:0} "kept", /d {1} a directory, in it x {1} "in d"; but for /e all of quota 100.
func furnished(t *testing.T) *bench {
	t.Helper()
	b := bare(t)
	b.fills(t)
	return b
}

// fills makes the files.
func (b *bench) fills(t *testing.T) {
	t.Helper()
	errno(t, "Mkdir", b.f.Mkdir(b.draw(owner), "/d", of("{1}"), 10000), api.OK)
	for _, x := range []struct {
		path, l, s string
		quota      int
	}{{"/a", "{1}", "hello", 100}, {"/e", "{1}", "", 5000}, {"/s", "{1 20:3}", "secret", 100}, {"/k", "{1 20:0}", "kept", 100}, {"/d/x", "{1}", "in d", 100}} {
		errno(t, "Make "+x.path, b.f.Make(b.draw(owner), x.path, of(x.l), x.quota), api.OK)
		errno(t, "Write "+x.path, b.f.Write(by(owner), x.path, 0, x.s), api.OK)
	}
}

// call is a call of a table, of whichever function; what it doesn't need it hasn't.
type call struct {
	name  string
	fd, n int // Seek: n is the place; Open: how
	s     string
	path  string
}

// answer is what a call answers beside its error; what its function doesn't answer is zero.
type answer struct {
	N, M  int
	S     string
	List  []int
	Table int
	Held  [3]int
}

// does does a call.
func (c call) does(x *fds.Table, w api.Whence) (a answer, e api.Errno) {
	switch c.name {
	case "Open":
		a.N, e = x.Open(w, c.path, c.n)
	case "Pipe":
		a.N, a.M, e = x.Pipe(w)
	case "Close":
		e = x.Close(w, c.fd)
	case "Dup":
		a.N, e = x.Dup(w, c.fd)
	case "Read":
		a.S, e = x.Read(w, c.fd, c.n)
	case "Write":
		a.N, e = x.Write(w, c.fd, c.s)
	case "Seek":
		e = x.Seek(w, c.fd, c.n)
	case "Fork":
		var u *fds.Table
		u, e = x.Fork(w)
		a.Table = u.Id()
		if u != nil && u.Home() != x.Home() || (u != nil) != (e == api.OK) {
			a.Table = -1
		}
	case "Drop":
		e = x.Drop(w)
	case "Slots":
		a.List, e = x.Slots(w)
	case "Held":
		a.Held[0], a.Held[1], a.Held[2], e = x.Held(w, c.fd)
	default:
		panic(c.name)
	}
	return a, e
}

// all are the calls' names.
func all() []string {
	return []string{"Open", "Pipe", "Close", "Dup", "Read", "Write", "Seek", "Fork", "Drop", "Slots", "Held"}
}

// each are all calls of a descriptor, that have nothing wrong but what it is.
func each(fd int) []call {
	var list []call
	for _, name := range all() {
		c := call{name: name, fd: fd, n: 1, s: "x", path: "/a"}
		list = append(list, c)
	}
	return list
}

// ofDescriptors are those of each that have a descriptor.
func ofDescriptors(fd int) []call {
	return slices.DeleteFunc(each(fd), func(c call) bool {
		return slices.Contains([]string{"Open", "Pipe", "Fork", "Drop", "Slots"}, c.name)
	})
}

// refuses does a call that is to answer this error, and nothing else, and to change nothing.
func (b *bench) refuses(t *testing.T, x *fds.Table, w api.Whence, c call, want api.Errno) {
	t.Helper()
	unchanged(t, b.k, func() {
		t.Helper()
		a, e := c.does(x, w)
		if e != want || !same(a, answer{}) {
			t.Errorf("%+v of %+v: %+v, error %d, not %d", c, w, a, e, want)
		}
	})
}

// tells does a call that is to be answered so, and OK.
func (b *bench) tells(t *testing.T, x *fds.Table, w api.Whence, c call, want answer) {
	t.Helper()
	a, e := c.does(x, w)
	if e != api.OK || !same(a, want) {
		t.Errorf("%+v of %+v: %+v, error %d, not %+v", c, w, a, e, want)
	}
	b.right(t)
}

// opens lets the owner open a file in the first table.
func (b *bench) opens(t *testing.T, path string, how int) int {
	t.Helper()
	fd, e := b.Open(b.draw(owner), path, how)
	errno(t, "Open "+path, e, api.OK)
	return fd
}

// pipe lets the owner make a pipe in the first table.
func (b *bench) pipe(t *testing.T) (r, w int) {
	t.Helper()
	r, w, e := b.Pipe(b.draw(owner))
	errno(t, "Pipe", e, api.OK)
	return r, w
}

// forks answers another table.
func (b *bench) forks(t *testing.T, x *fds.Table) *fds.Table {
	t.Helper()
	u, e := x.Fork(b.draw(owner))
	errno(t, "Fork", e, api.OK)
	return u
}

// reads tells whether the owner reads these bytes next.
func (b *bench) reads(t *testing.T, x *fds.Table, fd, n int, want string) {
	t.Helper()
	b.tells(t, x, by(owner), call{name: "Read", fd: fd, n: n}, answer{S: want})
}

// writes tells whether the owner writes so many of these bytes.
func (b *bench) writes(t *testing.T, x *fds.Table, fd int, s string, want int) {
	t.Helper()
	b.tells(t, x, by(owner), call{name: "Write", fd: fd, s: s}, answer{N: want})
}

// file tells whether a file has these bytes.
func (b *bench) file(t *testing.T, path, want string) {
	t.Helper()
	if s, e := b.f.Read(by(owner), path, 0, highest); e != api.OK || s != want {
		t.Errorf("%s: %q, %d, not %q", path, s, e, want)
	}
}

// does tells what a thread does.
func (b *bench) does(t *testing.T, thread int) int {
	t.Helper()
	o, ok := b.k.Object(thread)
	if !ok {
		t.Fatal(thread, "isn't there")
	}
	return o.Does
}

// waits lets a thread wait where the table says that it is held.
func (b *bench) waits(t *testing.T, thread int, x *fds.Table, fd int) {
	t.Helper()
	seg, off, value, e := x.Held(by(thread), fd)
	errno(t, "Held", e, api.OK)
	if told := b.ask(t, thread, api.Call{Op: api.CallWait, P: at(x.Home(), seg), A: off, B: value}); told.N != 0 || b.does(t, thread) != api.Waits {
		t.Error(thread, "doesn't wait")
	}
}

// numbers answers the numbers that a segment has, eight bytes each.
func numbers(k *kern.Kernel, id int) []int {
	o, _ := k.Object(id)
	var list []int
	for s := o.Bytes; len(s) >= 8; s = s[8:] {
		x := 0
		for i := 7; i >= 0; i-- {
			x = x<<8 | int(s[i])
		}
		list = append(list, x)
	}
	return list
}

// bytesOf are the bytes of numbers.
func bytesOf(list ...int) string {
	var s strings.Builder
	for _, x := range list {
		for range 8 {
			s.WriteByte(byte(x))
			x >>= 8
		}
	}
	return s.String()
}

// state writes out all objects, so that two kernels can be held against each other.
func state(k *kern.Kernel) string {
	var s strings.Builder
	fmt.Fprint(&s, "ticks ", k.Ticks())
	for _, id := range k.Ids() {
		o, _ := k.Object(id)
		fmt.Fprintf(&s, "\n%q", fmt.Sprintf("%+v", o))
	}
	return s.String()
}

// unchanged tells whether the calls left all objects as they were.
func unchanged(t *testing.T, k *kern.Kernel, calls func()) {
	t.Helper()
	before := state(k)
	calls()
	if after := state(k); after != before {
		t.Errorf("changed%s", unlike(before, after))
	}
}

// unlike answers the lines that two states haven't in common.
func unlike(before, after string) string {
	old, now := strings.Split(before, "\n"), strings.Split(after, "\n")
	var s strings.Builder
	for _, line := range old {
		if !slices.Contains(now, line) {
			s.WriteString("\n- " + line)
		}
	}
	for _, line := range now {
		if !slices.Contains(old, line) {
			s.WriteString("\n+ " + line)
		}
	}
	return s.String()
}

// right tells whether the kernel is right, as chapter 12 tells.
func (b *bench) right(t *testing.T) {
	t.Helper()
	if list := audit.Check(view.Dump(b.k), 1); len(list) > 0 {
		t.Error("wrong: ", list)
	}
}

// dice is a row of numbers that look like chance, the same each time.
type dice uint64

func (d *dice) roll(n int) int {
	*d = *d*6364136223846793005 + 1442695040888963407
	return int(uint64(*d) >> 33 % uint64(n))
}

// pick answers one of a few.
func pick[T any](d *dice, some ...T) T { return some[d.roll(len(some))] }

// same: nil and empty lists are the same.
func same(a, b any) bool { return fmt.Sprintf("%+v", a) == fmt.Sprintf("%+v", b) }
