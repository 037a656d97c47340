package files_test

import (
	"fmt"
	"reflect"
	"slices"
	"strings"
	"testing"

	"gatehouse/api"
	"gatehouse/audit"
	"gatehouse/dir"
	"gatehouse/files"
	"gatehouse/kern"
	"gatehouse/label"
	"gatehouse/view"
)

const (
	least   = -1 << 63
	highest = 1<<63 - 1
)

// The threads of a furnished kernel.
const (
	owner   = 3  // {1 20:*}, clearance {3}
	low     = 30 // {1}, clearance {2}
	tainted = 31 // {1 20:3}, clearance {3}
	kept    = 32 // {1 20:0}, clearance {3}: it doesn't see what is {1}
	ended   = 33 // {1}, stopped
	gone    = 99 // there is none
)

// of answers the label of a text.
func of(s string) api.Label {
	l, e := label.Parse(s)
	if e != api.OK {
		panic(s)
	}
	return l
}

func at(in, id int) api.Ref { return api.Ref{In: in, Id: id} }

// by is a thread without a number drawn for it.
func by(thread int) api.Whence { return api.Whence{Thread: thread} }

func errno(t *testing.T, what string, got, want api.Errno) {
	t.Helper()
	if got != want {
		t.Errorf("%s: error %d, not %d", what, got, want)
	}
}

// disk is a kernel with files in it, and the next number that is drawn.
type disk struct {
	*files.Files
	k    *kern.Kernel
	next int
}

// draw answers a thread with numbers that nobody had.
func (d *disk) draw(thread int) api.Whence {
	d.next += 10
	return api.Whence{Thread: thread, Draw: d.next}
}

// ask does a kernel's call of a thread that is to go well.
func (d *disk) ask(t *testing.T, thread int, c api.Call) api.Told {
	t.Helper()
	d.next += 10
	told, e := d.k.Do(thread, c, d.next)
	if e != api.OK {
		t.Fatalf("call %+v of %d: error %d", c, thread, e)
	}
	return told
}

// populated answers a kernel of the root 1, the console 2 and the threads above.
func populated(t *testing.T) *kern.Kernel {
	t.Helper()
	k, _ := kern.New(api.Boot{Root: 1, Console: 2, Thread: owner})
	do := func(thread, draw int, c api.Call) {
		t.Helper()
		c.P, c.A = at(1, 0), 1
		if _, e := k.Do(thread, c, draw); e != api.OK {
			t.Fatalf("%+v: error %d", c, e)
		}
	}
	do(owner, 20, api.Call{Op: api.CallOwn})
	do(owner, low, api.Call{Op: api.CallFlow, L: of("{1}"), M: of("{2}")})
	do(owner, tainted, api.Call{Op: api.CallFlow, L: of("{1 20:3}"), M: of("{3}")})
	do(owner, kept, api.Call{Op: api.CallFlow, L: of("{1 20:0}"), M: of("{3}")})
	do(owner, ended, api.Call{Op: api.CallFlow, L: of("{1}"), M: of("{2}")})
	do(ended, 0, api.Call{Op: api.CallHalt})
	return k
}

// bare answers a populated kernel with an empty root directory 10 {1}, with its bytes 11, and room for much.
func bare(t *testing.T) *disk {
	t.Helper()
	k := populated(t)
	f, e := files.Boot(k, api.Whence{Thread: owner, Draw: 10}, 1, of("{1}"), 1<<20)
	if e != api.OK || f == nil {
		t.Fatal("Boot", e)
	}
	return &disk{Files: f, k: k, next: 1000}
}

// furnished answers a disk of files and directories: each is named by the first letter of who may what.
// /a {1} "hello", /s {1 20:3} "secret", /k {1 20:0} "kept", all of quota 100; /d {1}, in it x {1} "in d"; /h {1 20:3}, in it x {1 20:3} "hidden"; /o {1 20:0}, in it x {1} "open", with another name y there.
func furnished(t *testing.T) *disk {
	t.Helper()
	d := bare(t)
	d.makes(t, "/a", "{1}", 100, "hello")
	d.makes(t, "/s", "{1 20:3}", 100, "secret")
	d.makes(t, "/k", "{1 20:0}", 100, "kept")
	d.makesDir(t, "/d", "{1}", 10000)
	d.makes(t, "/d/x", "{1}", 100, "in d")
	d.makesDir(t, "/h", "{1 20:3}", 10000)
	d.makes(t, "/h/x", "{1 20:3}", 100, "hidden")
	d.makesDir(t, "/o", "{1 20:0}", 10000)
	d.makes(t, "/o/x", "{1}", 100, "open")
	errno(t, "Link", d.Link(by(owner), "/o/x", "/o/y"), api.OK)
	return d
}

// makes lets the owner make a file of these bytes.
func (d *disk) makes(t *testing.T, path, l string, quota int, s string) {
	t.Helper()
	errno(t, "Make "+path, d.Make(d.draw(owner), path, of(l), quota), api.OK)
	errno(t, "Write "+path, d.Write(by(owner), path, 0, s), api.OK)
}

// makesDir lets the owner make a directory.
func (d *disk) makesDir(t *testing.T, path, l string, quota int) {
	t.Helper()
	errno(t, "Mkdir "+path, d.Mkdir(d.draw(owner), path, of(l), quota), api.OK)
}

// stat answers what is told to the owner.
func (d *disk) stat(t *testing.T, path string) api.Stat {
	t.Helper()
	s, e := d.Stat(by(owner), path)
	if e != api.OK {
		t.Fatalf("Stat(%q): error %d", path, e)
	}
	return s
}

// object answers the object that a path names.
func (d *disk) object(t *testing.T, path string) api.Object {
	t.Helper()
	o, ok := d.k.Object(d.stat(t, path).Id)
	if !ok {
		t.Fatalf("%q is no object", path)
	}
	return o
}

// bytesOf answers the segment of a directory's bytes, as an entry of its container.
func (d *disk) bytesOf(t *testing.T, path string) api.Ref {
	t.Helper()
	o := d.object(t, path)
	return at(o.Id, o.List[0])
}

// fill lets a directory have these bytes, whatever they are.
func (d *disk) fill(t *testing.T, path, s string) {
	t.Helper()
	errno(t, "Fill", d.k.Fill(d.bytesOf(t, path).Id, s), api.OK)
}

// lists lets a directory have these entries, whatever is there.
func (d *disk) lists(t *testing.T, path string, list ...api.Name) {
	t.Helper()
	d.fill(t, path, bytes(t, list...))
}

// bytes are those of a directory of these entries.
func bytes(t *testing.T, list ...api.Name) string {
	t.Helper()
	s, e := dir.Encode(list)
	errno(t, "Encode", e, api.OK)
	return s
}

// reads tells whether the owner reads these bytes.
func (d *disk) reads(t *testing.T, path, want string) {
	t.Helper()
	if s, e := d.Read(by(owner), path, 0, highest); e != api.OK || s != want {
		t.Errorf("Read(%q) = %q, %d, not %q", path, s, e, want)
	}
}

// names tells whether a directory has just these names.
func (d *disk) names(t *testing.T, path string, want ...string) {
	t.Helper()
	list, e := d.List(by(owner), path)
	var got []string
	for _, n := range list {
		got = append(got, n.Name)
	}
	if e != api.OK || !slices.Equal(got, want) {
		t.Errorf("List(%q) = %q, %d, not %q", path, got, e, want)
	}
}

// state writes out all objects, so that two kernels can be held against each other.
func state(k *kern.Kernel) string {
	var s strings.Builder
	fmt.Fprint(&s, "ticks ", k.Ticks())
	for _, id := range k.Ids() {
		o, _ := k.Object(id)
		fmt.Fprintf(&s, "\n%q", fmt.Sprintf("%+v", o))
	}
	return s.String()
}

// unchanged tells whether the calls left all objects as they were.
func unchanged(t *testing.T, k *kern.Kernel, calls func()) {
	t.Helper()
	before := state(k)
	calls()
	if after := state(k); after != before {
		t.Errorf("changed%s", unlike(before, after))
	}
}

// unlike answers the lines that two states haven't in common.
func unlike(before, after string) string {
	old, now := strings.Split(before, "\n"), strings.Split(after, "\n")
	var s strings.Builder
	for _, line := range old {
		if !slices.Contains(now, line) {
			s.WriteString("\n- " + line)
		}
	}
	for _, line := range now {
		if !slices.Contains(old, line) {
			s.WriteString("\n+ " + line)
		}
	}
	return s.String()
}

// right tells whether the kernel is right, as chapter 12 tells.
func (d *disk) right(t *testing.T) {
	t.Helper()
	if list := audit.Check(view.Dump(d.k), 1); len(list) > 0 {
		t.Error("wrong: ", list)
	}
}

// call is a call of files, of whichever function; what it doesn't need it hasn't.
type call struct {
	name     string
	path, to string
	at, n    int // Write: at alone; Cut: n alone
	s        string
	l        api.Label
	quota    int
}

// answer is what a call answers beside its error; what its function doesn't answer is zero.
type answer struct {
	S    string
	Stat api.Stat
	List []api.Name
}

// does does a call.
func (c call) does(f *files.Files, w api.Whence) (a answer, e api.Errno) {
	switch c.name {
	case "Make":
		e = f.Make(w, c.path, c.l, c.quota)
	case "Mkdir":
		e = f.Mkdir(w, c.path, c.l, c.quota)
	case "Remove":
		e = f.Remove(w, c.path)
	case "Link":
		e = f.Link(w, c.path, c.to)
	case "Rename":
		e = f.Rename(w, c.path, c.to)
	case "Read":
		a.S, e = f.Read(w, c.path, c.at, c.n)
	case "Write":
		e = f.Write(w, c.path, c.at, c.s)
	case "Cut":
		e = f.Cut(w, c.path, c.n)
	case "Stat":
		a.Stat, e = f.Stat(w, c.path)
	case "List":
		a.List, e = f.List(w, c.path)
	default:
		panic(c.name)
	}
	return a, e
}

// all are the calls' names.
func all() []string {
	return []string{"Make", "Mkdir", "Remove", "Link", "Rename", "Read", "Write", "Cut", "Stat", "List"}
}

// along are calls whose path, or second path, is this one, and that have nothing wrong but it.
func along(path string) []call {
	var list []call
	for _, name := range all() {
		c := call{name: name, path: path, to: "/new", n: 1, s: "x", l: of("{1}"), quota: 5000}
		list = append(list, c)
		if name == "Link" || name == "Rename" {
			c.path, c.to = "/a", path
			list = append(list, c)
		}
	}
	return list
}

// refuses does a call that is to answer this error, and nothing else, and to change nothing.
func (d *disk) refuses(t *testing.T, w api.Whence, c call, want api.Errno) {
	t.Helper()
	unchanged(t, d.k, func() {
		t.Helper()
		a, e := c.does(d.Files, w)
		if e != want || !empty(a) {
			t.Errorf("%+v of %+v: %+v, error %d, not %d", c, w, a, e, want)
		}
	})
}

// goesWell does a call that is to be answered OK.
func (d *disk) goesWell(t *testing.T, w api.Whence, c call) answer {
	t.Helper()
	a, e := c.does(d.Files, w)
	if e != api.OK {
		t.Errorf("%+v of %+v: error %d", c, w, e)
	}
	d.right(t)
	return a
}

// empty: is there nothing in the answer? nil and empty lists are the same.
func empty(a answer) bool {
	return a.S == "" && len(a.List) == 0 && reflect.ValueOf(a.Stat).IsZero()
}

// dice is a row of numbers that look like chance, the same each time.
type dice uint64

func (d *dice) roll(n int) int {
	*d = *d*6364136223846793005 + 1442695040888963407
	return int(uint64(*d) >> 33 % uint64(n))
}

// pick answers one of a few.
func pick[T any](d *dice, some ...T) T { return some[d.roll(len(some))] }

// same: nil and empty lists are the same.
func same(a, b any) bool { return fmt.Sprintf("%+v", a) == fmt.Sprintf("%+v", b) }
