package dir_test

import (
	"slices"
	"strings"
	"testing"

	"gatehouse/api"
	"gatehouse/dir"
)

func TestRight(t *testing.T) {
	for _, l := range edgeLists() {
		if !dir.Right(l) {
			t.Errorf("Right(%v) = false", l)
		}
	}
	for _, l := range wrongLists() {
		if dir.Right(l) {
			t.Errorf("Right(%v) = true", l)
		}
	}
}

// A name may have each byte but two, at its beginning and at its end.
func TestBytesOfNames(t *testing.T) {
	for c := range 256 {
		s := string([]byte{byte(c)})
		can := c != 0 && c != '/'
		for _, name := range []string{s + "x", "x" + s, "xx" + s + "x", strings.Repeat("x", 31) + s, s + strings.Repeat("x", 31)} {
			if dir.Right([]api.Name{file(name)}) != can {
				t.Errorf("a file %q: %t", name, !can)
			}
		}
		if dir.Right([]api.Name{file(s)}) != (can && s != ".") {
			t.Errorf("a file %q", s)
		}
	}
}

func TestPut(t *testing.T) {
	puts(t, nil, b, []api.Name{b})
	puts(t, []api.Name{}, b, []api.Name{b})
	puts(t, []api.Name{b}, a, []api.Name{a, b})
	puts(t, []api.Name{a}, b, []api.Name{a, b})
	puts(t, []api.Name{a, b}, file("aa"), []api.Name{a, file("aa"), b})
	puts(t, []api.Name{a, b}, file("A"), []api.Name{file("A"), a, b})
	puts(t, []api.Name{a, b}, file("\xff"), []api.Name{a, b, file("\xff")})
	puts(t, []api.Name{file("ab")}, file("a"), []api.Name{file("a"), file("ab")})
	for _, s := range edgeNames() {
		puts(t, nil, file(s), []api.Name{file(s)})
	}
}

// Other entries may have the same number and the same kind: names alone are held against each other.
func TestPutSameNumber(t *testing.T) {
	puts(t, []api.Name{b}, api.Name{Name: "c", Kind: b.Kind, Id: b.Id}, []api.Name{b, {Name: "c", Kind: b.Kind, Id: b.Id}})
	puts(t, nil, api.Name{Name: "c", Kind: api.ADir, Id: api.MaxId}, []api.Name{{Name: "c", Kind: api.ADir, Id: api.MaxId}})
	puts(t, nil, api.Name{Name: "c", Kind: api.ADir, Id: 1}, []api.Name{{Name: "c", Kind: api.ADir, Id: 1}})
}

func TestPutErrors(t *testing.T) {
	for _, l := range wrongLists() {
		refusesPut(t, l, file("new"), api.ErrForm)
		refusesPut(t, l, l[0], api.ErrForm)
		refusesPut(t, l, api.Name{}, api.ErrForm)
	}
	for _, n := range wrongEntries() {
		refusesPut(t, nil, n, api.ErrInval)
		refusesPut(t, []api.Name{a, b}, n, api.ErrInval)
		refusesPut(t, ending(12), n, api.ErrInval)
	}
	refusesPut(t, nil, api.Name{}, api.ErrInval)
	refusesPut(t, []api.Name{a, b}, api.Name{Name: "a", Kind: 3, Id: 9}, api.ErrInval)
	refusesPut(t, []api.Name{a, b}, api.Name{Name: "b", Kind: api.AFile}, api.ErrInval)
	for _, n := range []api.Name{a, b, file("a"), file("b")} {
		refusesPut(t, []api.Name{a, b}, n, api.ErrExist)
	}
}

func TestPutWhereNoRoomIs(t *testing.T) {
	z := func(long int) api.Name { return file(strings.Repeat("z", long)) }
	for long := range 33 {
		switch {
		case long == 0:
			refusesPut(t, row(97), z(long), api.ErrInval)
		case long <= 12:
			puts(t, row(97), z(long), ending(long))
		default:
			refusesPut(t, row(97), z(long), api.ErrNoSpc)
		}
	}
	refusesPut(t, ending(12), file("a"), api.ErrNoSpc)
	refusesPut(t, ending(12), file(" "), api.ErrNoSpc)
	for _, n := range ending(12) {
		refusesPut(t, ending(12), n, api.ErrExist)
	}
	refusesPut(t, ending(2), file("a"), api.ErrNoSpc)
	puts(t, ending(1), file("!"), append([]api.Name{file("!")}, ending(1)...))
}

func TestCut(t *testing.T) {
	l := []api.Name{a, file("aa"), b}
	for i, n := range l {
		got, e := dir.Cut(l, n.Name)
		if e != api.OK || !slices.Equal(got, slices.Concat(l[:i], l[i+1:])) {
			t.Errorf("Cut(%q) = %v, %d", n.Name, got, e)
		}
	}
	if got, e := dir.Cut([]api.Name{a}, "a"); e != api.OK || len(got) != 0 {
		t.Errorf("Cut of the last one = %v, %d", got, e)
	}
	got, e := dir.Cut(ending(12), strings.Repeat("z", 12))
	if e != api.OK || !slices.Equal(got, row(97)) {
		t.Errorf("Cut of 4096 bytes: %d entries, %d", len(got), e)
	}
}

func TestCutErrors(t *testing.T) {
	for _, l := range wrongLists() {
		refusesCut(t, l, "nowhere", api.ErrForm)
		refusesCut(t, l, l[0].Name, api.ErrForm)
	}
	for _, s := range append(wrongNames(), "A", "aa", "ab", "c", "\xff") {
		refusesCut(t, nil, s, api.ErrNoEnt)
		refusesCut(t, []api.Name{a, b}, s, api.ErrNoEnt)
		refusesCut(t, ending(12), s, api.ErrNoEnt)
	}
}

// What was cut may be put again, and what was put cut, at every place.
func TestCutUndoesPut(t *testing.T) {
	for _, l := range edgeLists() {
		for _, s := range append(edgeNames(), "0", "c", "zz") {
			more, e := dir.Put(l, file(s))
			if e != api.OK {
				continue
			}
			if back, e := dir.Cut(more, s); e != api.OK || !slices.Equal(back, l) {
				t.Errorf("Cut of Put(%v, %q) = %v, %d", l, s, back, e)
			}
		}
		for _, n := range l {
			less, _ := dir.Cut(l, n.Name)
			puts(t, less, n, l)
		}
	}
}

func TestFind(t *testing.T) {
	finds := func(l []api.Name, name string, want api.Name, there bool) {
		t.Helper()
		if got, ok := dir.Find(l, name); got != want || ok != there {
			t.Errorf("Find(%v, %q) = %v, %t", l, name, got, ok)
		}
	}
	none := api.Name{}
	finds(nil, "a", none, false)
	finds(nil, "", none, false)
	finds([]api.Name{a, b}, "a", a, true)
	finds([]api.Name{a, b}, "b", b, true)
	finds([]api.Name{a, b}, "c", none, false)
	finds([]api.Name{a, b}, "", none, false)
	finds([]api.Name{file("aa"), file("ab")}, "a", none, false)
}

// Find asks any list: one that doesn't rise, or whose entries can't be.
func TestFindOfAnyList(t *testing.T) {
	twice := []api.Name{b, a, file("a"), {Name: "b", Kind: 9, Id: -1}, a}
	if got, ok := dir.Find(twice, "a"); got != a || !ok {
		t.Error("not the first: ", got, ok)
	}
	if got, ok := dir.Find(twice[2:], "a"); got != file("a") || !ok {
		t.Error("not the first: ", got, ok)
	}
	if got, ok := dir.Find(twice[2:], "b"); got != twice[3] || !ok {
		t.Error("not what can't be: ", got, ok)
	}
	for _, l := range wrongLists() {
		for i, n := range l {
			first := slices.IndexFunc(l, func(m api.Name) bool { return m.Name == n.Name })
			if got, ok := dir.Find(l, n.Name); got != l[first] || !ok {
				t.Errorf("Find(%v, entry %d) = %v, %t", l, i, got, ok)
			}
		}
	}
}
