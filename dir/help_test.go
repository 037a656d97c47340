package dir_test

import (
	"encoding/binary"
	"fmt"
	"slices"
	"strings"
	"testing"

	"gatehouse/api"
	"gatehouse/dir"
)

const (
	least   = -1 << 63
	highest = 1<<63 - 1
)

// a and b are the entries of the chapter's example.
var (
	a = api.Name{Name: "a", Kind: api.ADir, Id: 9}
	b = api.Name{Name: "b", Kind: api.AFile, Id: 7}
)

func file(name string) api.Name { return api.Name{Name: name, Kind: api.AFile, Id: 5} }

func errno(t *testing.T, what string, got, want api.Errno) {
	t.Helper()
	if got != want {
		t.Errorf("%s: error %d, not %d", what, got, want)
	}
}

// row is n files whose names have 32 bytes each: 42 bytes an entry.
func row(n int) []api.Name {
	var l []api.Name
	for i := range n {
		l = append(l, file(fmt.Sprintf("%032d", i)))
	}
	return l
}

// ending is a directory of 4074 bytes, and behind it one entry more, with a name of so many bytes.
func ending(long int) []api.Name { return append(row(97), file(strings.Repeat("z", long))) }

// wrongNames are names that can't be.
func wrongNames() []string {
	return []string{"", ".", "..", "/", "\x00", "/a", "a/", "a/b", "a\x00", "\x00a", "a\x00b", "//", "../a",
		strings.Repeat("a", 31) + "/", strings.Repeat("a", 31) + "\x00", strings.Repeat("a", 33), strings.Repeat("a", 300), strings.Repeat(".", 33)}
}

// edgeNames are names that just can be.
func edgeNames() []string {
	return []string{"a", "...", "..a", ".a", "a.", "a..", " ", "\n", "\x01", "\xff", "\xff\xfe", "é", "\\", "-", strings.Repeat("a", 32), strings.Repeat("\xff", 32), strings.Repeat(".", 32)}
}

// wrongEntries are entries that can't be, each by one field.
func wrongEntries() []api.Name {
	var list []api.Name
	for _, s := range wrongNames() {
		list = append(list, file(s))
	}
	for _, n := range []int{least, -2, -1, 0, 3, 4, 257, 258, 1<<32 + 1, highest} {
		list = append(list, api.Name{Name: "k", Kind: n, Id: 5})
	}
	for _, n := range []int{least, -1, 0, api.MaxId + 1, 1 << 62, highest} {
		list = append(list, api.Name{Name: "k", Kind: api.ADir, Id: n})
	}
	return list
}

// wrongLists are lists that are no right directory.
func wrongLists() [][]api.Name {
	list := [][]api.Name{
		{b, a},
		{a, a},
		{a, file("a")},
		{a, b, a},
		{a, b, b},
		{file("a"), file("c"), file("b")},
		{file("ab"), file("a")},
		{file("\x80"), file("\x7f")},
		{file("a"), file("B")},
		ending(13),
		ending(32),
		row(98),
		row(400),
	}
	for _, n := range wrongEntries() {
		list = append(list, []api.Name{n}, []api.Name{file("!"), n}, []api.Name{n, file("z")}, []api.Name{file("!"), n, file("z")})
	}
	return list
}

// edgeLists are lists that just are right directories.
func edgeLists() [][]api.Name {
	list := [][]api.Name{
		nil,
		{},
		{a, b},
		{file("a"), file("ab"), file("abc"), file("b")},
		{file("B"), file("a")},
		{file("\x01"), file("\x7f"), file("\x80"), file("\xff"), file("\xff\x01")},
		{file("a"), file("a\x01")},
		{{Name: "x", Kind: api.ADir, Id: 1}, {Name: "y", Kind: api.AFile, Id: 1}},
		{{Name: "x", Kind: api.ADir, Id: api.MaxId}, {Name: "y", Kind: api.AFile, Id: 0x0102030405060708}},
		row(97),
		ending(1),
		ending(11),
		ending(12),
	}
	for _, s := range edgeNames() {
		list = append(list, []api.Name{file(s)})
	}
	return list
}

// rightEntry says the words of the chapter one by one.
func rightEntry(n api.Name) bool {
	for i := range len(n.Name) {
		if n.Name[i] == 0 || n.Name[i] == 47 {
			return false
		}
	}
	long := len(n.Name)
	return long > 0 && long < 33 && n.Name != "." && n.Name != ".." && (n.Kind == 1 || n.Kind == 2) && n.Id > 0 && n.Id < 1<<61
}

// bytesOf are the bytes of entries that can be, in whichever order.
func bytesOf(l []api.Name) string {
	var s []byte
	for _, n := range l {
		s = append(append(append(s, byte(len(n.Name))), n.Name...), byte(n.Kind))
		s = binary.LittleEndian.AppendUint64(s, uint64(n.Id))
	}
	return string(s)
}

// rightList holds every entry against every other one.
func rightList(l []api.Name) bool {
	for i, n := range l {
		for _, ahead := range l[:i] {
			if slices.Compare([]byte(ahead.Name), []byte(n.Name)) >= 0 {
				return false
			}
		}
		if !rightEntry(n) {
			return false
		}
	}
	return len(bytesOf(l)) <= 4096
}

// sorted answers the entries by their names, byte by byte.
func sorted(l []api.Name) []api.Name {
	l = slices.Clone(l)
	slices.SortStableFunc(l, func(m, n api.Name) int { return slices.Compare([]byte(m.Name), []byte(n.Name)) })
	return l
}

// put makes a directory of entries that can be put one by one.
func put(t *testing.T, list ...api.Name) []api.Name {
	t.Helper()
	var l []api.Name
	for _, n := range list {
		var e api.Errno
		if l, e = dir.Put(l, n); e != api.OK {
			t.Fatalf("Put(%q): error %d", n.Name, e)
		}
	}
	return l
}

// puts tells whether Put answers that list.
func puts(t *testing.T, l []api.Name, n api.Name, want []api.Name) {
	t.Helper()
	if got, e := dir.Put(l, n); e != api.OK || !slices.Equal(got, want) {
		t.Errorf("Put(%v, %v) = %v, %d, not %v", l, n, got, e, want)
	}
}

// refusesPut tells whether Put answers that error, and nothing else.
func refusesPut(t *testing.T, l []api.Name, n api.Name, want api.Errno) {
	t.Helper()
	if got, e := dir.Put(l, n); e != want || len(got) > 0 {
		t.Errorf("Put(%v, %v) = %v, %d, not error %d", l, n, got, e, want)
	}
}

// refusesCut tells whether Cut answers that error, and nothing else.
func refusesCut(t *testing.T, l []api.Name, name string, want api.Errno) {
	t.Helper()
	if got, e := dir.Cut(l, name); e != want || len(got) > 0 {
		t.Errorf("Cut(%v, %q) = %v, %d, not error %d", l, name, got, e, want)
	}
}

// dice is a row of numbers that look like chance, the same each time.
type dice uint64

func (d *dice) roll(n int) int {
	*d = *d*6364136223846793005 + 1442695040888963407
	return int(uint64(*d) >> 33 % uint64(n))
}

// pick answers one of a few.
func pick[T any](d *dice, some ...T) T { return some[d.roll(len(some))] }
