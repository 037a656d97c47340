package dir_test

import (
	"slices"
	"strings"
	"testing"

	"gatehouse/api"
	"gatehouse/dir"
)

// name answers one of few names, seldom one that can't be or just can.
func (d *dice) name() string {
	switch d.roll(24) {
	case 0:
		return pick(d, wrongNames()...)
	case 1, 2:
		return pick(d, edgeNames()...)
	}
	var s []byte
	for range 1 + d.roll(3) {
		s = append(s, pick(d, 'a', 'b', 'c', '.', byte(1), byte(255)))
	}
	return string(s)
}

// entry answers an entry, mostly right.
func (d *dice) entry() api.Name {
	n := api.Name{Name: d.name(), Kind: 1 + d.roll(2), Id: pick(d, 1, 2, 258, api.MaxId)}
	switch d.roll(30) {
	case 0:
		n.Kind = pick(d, least, -1, 0, 3, 257, highest)
	case 1:
		n.Id = pick(d, least, -1, 0, api.MaxId+1, highest)
	}
	return n
}

// list answers entries, mostly those of a right directory.
func (d *dice) list() []api.Name {
	var l []api.Name
	for range d.roll(6) {
		l = append(l, d.entry())
	}
	if d.roll(4) > 0 {
		l = sorted(l)
	}
	return l
}

func TestRightOfAny(t *testing.T) {
	d, right := dice(1), 0
	for range 20000 {
		l := d.list()
		can := rightList(l)
		if dir.Right(l) != can {
			t.Fatalf("Right(%v) = %t", l, !can)
		}
		s, e := dir.Encode(l)
		if !can && (e != api.ErrForm || s != "") || can && (e != api.OK || s != bytesOf(l)) {
			t.Fatalf("Encode(%v) = %q, %d", l, s, e)
		}
		if can && len(l) > 1 {
			right++
		}
	}
	if right < 2000 {
		t.Error("too few right lists: ", right)
	}
}

// decode reads entry by entry, and holds the bytes of what it read against those that it was given.
func decode(s string) ([]api.Name, bool) {
	var l []api.Name
	for at := 0; at < len(s); {
		long := int(s[at])
		if at+long+10 > len(s) {
			return nil, false
		}
		id := uint64(0)
		for i := 7; i >= 0; i-- {
			id = id*256 + uint64(s[at+long+2+i])
		}
		l = append(l, api.Name{Name: s[at+1 : at+1+long], Kind: int(s[at+1+long]), Id: int(id)})
		at += long + 10
	}
	return l, rightList(l) && bytesOf(l) == s
}

// spoil changes bytes: one of them is another one, gone, or more.
func (d *dice) spoil(s string) string {
	if s == "" {
		return s
	}
	at, c := d.roll(len(s)), string([]byte{byte(d.roll(256))})
	if d.roll(2) == 0 {
		c = string([]byte{byte(d.roll(4))})
	}
	switch d.roll(4) {
	case 0:
		return s[:at] + s[at+1:]
	case 1:
		return s[:at] + c + s[at:]
	}
	return s[:at] + c + s[at+1:]
}

func TestDecodeOfAny(t *testing.T) {
	d, right, wrong := dice(2), 0, 0
	for range 40000 {
		s := bytesOf(d.list())
		for range d.roll(3) {
			s = d.spoil(s)
		}
		want, can := decode(s)
		got, e := dir.Decode(s)
		if can {
			right++
			if back, f := dir.Encode(got); e != api.OK || !slices.Equal(got, want) || f != api.OK || back != s {
				t.Fatalf("Decode(%q) = %v, %d", s, got, e)
			}
			continue
		}
		wrong++
		refusesBytes(t, s)
	}
	if right < 5000 || wrong < 5000 {
		t.Error("too few of one kind: ", right, wrong)
	}
}

// wantPut is what Put must answer, by a list that is sorted whole.
func wantPut(l []api.Name, n api.Name) ([]api.Name, api.Errno) {
	more := sorted(append(slices.Clone(l), n))
	switch {
	case !rightList(l):
		return nil, api.ErrForm
	case !rightEntry(n):
		return nil, api.ErrInval
	case slices.ContainsFunc(l, func(o api.Name) bool { return o.Name == n.Name }):
		return nil, api.ErrExist
	case len(bytesOf(more)) > 4096:
		return nil, api.ErrNoSpc
	}
	return more, api.OK
}

func TestPutIntoAny(t *testing.T) {
	d := dice(3)
	seen := map[api.Errno]int{}
	for range 20000 {
		l, n := d.list(), d.entry()
		if d.roll(20) == 0 {
			l = sorted(append(slices.Clone(l), row(95+d.roll(3))...))
		}
		want, f := wantPut(l, n)
		got, e := dir.Put(l, n)
		if e != f || !slices.Equal(got, want) {
			t.Fatalf("Put(%v, %v) = %v, %d, not %d", l, n, got, e, f)
		}
		if seen[e]++; e != api.OK {
			continue
		}
		if back, e := dir.Cut(got, n.Name); e != api.OK || !slices.Equal(back, l) {
			t.Fatalf("Cut of Put(%v, %v) = %v, %d", l, n, back, e)
		}
	}
	for _, e := range []api.Errno{api.OK, api.ErrForm, api.ErrInval, api.ErrExist, api.ErrNoSpc} {
		if seen[e] < 20 {
			t.Error("hardly ever answered: ", e, seen[e])
		}
	}
}

func TestCutOutOfAny(t *testing.T) {
	d := dice(4)
	for range 20000 {
		l, name := d.list(), d.name()
		at := slices.IndexFunc(l, func(n api.Name) bool { return n.Name == name })
		found, ok := dir.Find(l, name)
		if ok != (at >= 0) || ok && found != l[at] || !ok && found != (api.Name{}) {
			t.Fatalf("Find(%v, %q) = %v, %t", l, name, found, ok)
		}
		switch {
		case !rightList(l):
			refusesCut(t, l, name, api.ErrForm)
		case at < 0:
			refusesCut(t, l, name, api.ErrNoEnt)
		default:
			if got, e := dir.Cut(l, name); e != api.OK || !slices.Equal(got, slices.Delete(slices.Clone(l), at, at+1)) {
				t.Fatalf("Cut(%v, %q) = %v, %d", l, name, got, e)
			}
		}
	}
}

// split reads a path byte by byte, as the chapter says it.
func split(path string) ([]string, api.Errno) {
	if len(path) > 256 {
		return nil, api.ErrLong
	}
	var names []string
	part, zero := "", false
	for i := range len(path) + 1 {
		if i < len(path) && path[i] != '/' {
			part, zero = part+path[i:i+1], zero || path[i] == 0
			continue
		}
		switch {
		case zero:
			return nil, api.ErrInval
		case len(part) > 32:
			return nil, api.ErrLong
		case part == ".." && len(names) > 0:
			names = names[:len(names)-1]
		case part != "" && part != "." && part != "..":
			names = append(names, part)
		}
		part = ""
	}
	if len(names) > 16 {
		return nil, api.ErrLong
	}
	return names, api.OK
}

func TestSplitOfAny(t *testing.T) {
	d := dice(5)
	seen := map[api.Errno]int{}
	for range 30000 {
		var s strings.Builder
		for range d.roll(pick(&d, 4, 12, 60)) {
			s.WriteString(pick(&d, "/", "/", "a", "bc", "/./", "/../", "/x/", "/y", pick(&d, "\xff", x(31), x(32), x(33), strings.Repeat("/", 100), "\x00")))
		}
		path := s.String()
		want, f := split(path)
		got, e := dir.Split(path)
		if e != f || !slices.Equal(got, want) {
			t.Fatalf("Split(%q) = %q, %d, not %q, %d", path, got, e, want, f)
		}
		if seen[e]++; e != api.OK {
			continue
		}
		if len(dir.Join(got)) <= 256 {
			says(t, dir.Join(got), got...)
		}
	}
	for _, e := range []api.Errno{api.OK, api.ErrLong, api.ErrInval} {
		if seen[e] < 1000 {
			t.Error("hardly ever answered: ", e, seen[e])
		}
	}
}

// Two directories that differ, however little, differ in their bytes.
func TestUnlikeBytesOfAny(t *testing.T) {
	d, of := dice(6), map[string][]api.Name{}
	for range 30000 {
		l := sorted(d.list())
		s, e := dir.Encode(l)
		if e != api.OK {
			continue
		}
		if before, ok := of[s]; ok && !slices.Equal(before, l) {
			t.Fatalf("%v and %v have the same bytes", before, l)
		}
		of[s] = l
	}
	if len(of) < 5000 {
		t.Error("too few directories: ", len(of))
	}
}
