package files_test

import (
	"fmt"
	"slices"
	"strings"
	"testing"

	"gatehouse/api"
)

// tree is what names mean, without any kernel: of each path the file that it names, of whose bytes there is one row, or nil, if it is a directory.
type tree map[string]*[]byte

// above is the directory that a path stands in.
func above(path string) string { return path[:strings.LastIndex(path, "/")] }

// do does a call of files for which there is room, and that all may do; the error is the first that the names are the reason of.
func (m tree) do(c call) (string, api.Errno) {
	file, there := m[c.path]
	switch c.name {
	case "Make", "Mkdir":
		return "", m.add(c)
	case "Remove":
		return "", m.remove(c.path)
	case "Link", "Rename":
		return "", m.name(c)
	}
	switch {
	case m.blocked(c.path) != api.OK:
		return "", m.blocked(c.path)
	case !there:
		return "", api.ErrNoEnt
	case file == nil:
		return "", api.ErrIsDir
	}
	switch c.name {
	case "Write":
		if c.s != "" && len(*file) < c.at+len(c.s) {
			*file = append(*file, make([]byte, c.at+len(c.s)-len(*file))...)
		}
		copy((*file)[min(c.at, len(*file)):], c.s)
	case "Cut":
		*file = append((*file)[:min(c.n, len(*file))], make([]byte, max(0, c.n-len(*file)))...)
	}
	return string(*file), api.OK
}

// blocked is the error of what stands ahead of a path's last name.
func (m tree) blocked(path string) api.Errno {
	in := above(path)
	if in == "" {
		return api.OK
	}
	if e := m.blocked(in); e != api.OK {
		return e
	}
	switch file, there := m[in]; {
	case !there:
		return api.ErrNoEnt
	case file != nil:
		return api.ErrNotDir
	}
	return api.OK
}

func (m tree) add(c call) api.Errno {
	if e := m.blocked(c.path); e != api.OK {
		return e
	}
	if _, there := m[c.path]; there {
		return api.ErrExist
	}
	m[c.path] = nil
	if c.name == "Make" {
		m[c.path] = &[]byte{}
	}
	return api.OK
}

// under are the paths in a directory, at any depth.
func (m tree) under(path string) []string {
	var list []string
	for other := range m {
		if strings.HasPrefix(other, path+"/") {
			list = append(list, other)
		}
	}
	return list
}

func (m tree) remove(path string) api.Errno {
	if e := m.blocked(path); e != api.OK {
		return e
	}
	if _, there := m[path]; !there {
		return api.ErrNoEnt
	}
	if len(m.under(path)) > 0 {
		return api.ErrBusy
	}
	delete(m, path)
	return api.OK
}

// name is Link and Rename.
func (m tree) name(c call) api.Errno {
	if e := m.blocked(c.path); e != api.OK {
		return e
	}
	file, there := m[c.path]
	switch {
	case !there:
		return api.ErrNoEnt
	case c.name == "Link" && file == nil:
		return api.ErrIsDir
	}
	if e := m.blocked(c.to); e != api.OK {
		return e
	}
	if c.name == "Rename" && c.path == c.to {
		return api.OK
	}
	if _, there := m[c.to]; there {
		return api.ErrExist
	}
	if file == nil && above(c.path) != above(c.to) {
		return api.ErrInval
	}
	for _, other := range m.under(c.path) {
		m[c.to+strings.TrimPrefix(other, c.path)] = m[other]
		delete(m, other)
	}
	m[c.to] = file
	if c.name == "Rename" {
		delete(m, c.path)
	}
	return api.OK
}

// shared is how many names are those of files that have others, too.
func (m tree) shared() int {
	names := map[*[]byte]int{}
	for _, file := range m {
		if file != nil {
			names[file]++
		}
	}
	n := 0
	for _, many := range names {
		n += many - 1
	}
	return n
}

// treeCall answers a call on few paths for which there is room.
func (d *dice) treeCall() call {
	path := func() string {
		s := ""
		for range 1 + d.roll(3) {
			s += "/" + pick(d, "a", "b", "c", "d")
		}
		return s
	}
	c := call{name: pick(d, "Make", "Make", "Mkdir", "Mkdir", "Remove", "Link", "Link", "Link", "Link", "Rename", "Rename", "Write", "Write", "Cut", "Read"), path: path(), to: path(), l: of("{1}")}
	c.at, c.s, c.n = d.roll(20), fmt.Sprint(d.roll(1000)), d.roll(20)
	c.quota = 100
	switch c.name {
	case "Read":
		c.at, c.n = 0, 200
	case "Mkdir":
		c.quota = 1 << (30 - 5*strings.Count(c.path, "/"))
	}
	return c
}

// as tells whether every path reads as the model says, and each directory has just its names.
func (d *disk) as(t *testing.T, m tree, what string) {
	t.Helper()
	names := map[string][]string{"": nil}
	for path, file := range m {
		if file == nil {
			names[path] = nil
			continue
		}
		if s, e := d.Read(by(low), path, 0, highest); e != api.OK || s != string(*file) {
			t.Fatalf("%s: Read(%q) = %q, %d, not %q", what, path, s, e, *file)
		}
	}
	for path := range m {
		names[above(path)] = append(names[above(path)], path)
	}
	for in, want := range names {
		list, e := d.List(by(low), in)
		var got []string
		for _, n := range list {
			got = append(got, in+"/"+n.Name)
			if file := m[in+"/"+n.Name]; (file == nil) != (n.Kind == api.ADir) {
				t.Fatalf("%s: %q of kind %d", what, in+"/"+n.Name, n.Kind)
			}
		}
		slices.Sort(want)
		if e != api.OK || !slices.Equal(got, want) {
			t.Fatalf("%s: List(%q) = %q, %d, not %q", what, in, got, e, want)
		}
	}
}

// TestAFileIsAFile: what is written is read by every name of the file, and by no other; names change no other names.
func TestAFileIsAFile(t *testing.T) {
	d, shared := dice(3), 0
	count := map[api.Errno]int{}
	for row := range 30 {
		k := populated(t)
		on := &disk{Files: boots(t, k, api.Whence{Thread: low, Draw: 10}, 1, of("{1}"), 1<<39, api.OK), k: k, next: 1000}
		m := tree{}
		for step := range 300 {
			c := d.treeCall()
			want, f := m.do(c)
			a, e := c.does(on.Files, on.draw(pick(&d, owner, low)))
			count[e]++
			what := fmt.Sprintf("row %d, step %d: %+v", row, step, c)
			if e != f || c.name == "Read" && a.S != want {
				t.Fatalf("%s: %q, error %d, not %q, %d", what, a.S, e, want, f)
			}
			on.as(t, m, what)
			shared += m.shared()
		}
		on.right(t)
	}
	if shared < 2000 {
		t.Error("too few files had several names: ", shared)
	}
	for _, e := range []api.Errno{api.OK, api.ErrNoEnt, api.ErrExist, api.ErrNotDir, api.ErrIsDir, api.ErrBusy, api.ErrInval} {
		if count[e] < 5 {
			t.Error("error", e, "came", count[e], "times")
		}
	}
}
