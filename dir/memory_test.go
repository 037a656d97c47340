package dir_test

import (
	"slices"
	"testing"

	"gatehouse/api"
	"gatehouse/dir"
)

// roomy answers a list with spare room behind it, and all of that.
func roomy(l ...api.Name) ([]api.Name, []api.Name) {
	whole := slices.Concat(l, row(8))
	return whole[:len(l)], whole
}

// askAll makes each call with a list and a name.
func askAll(l []api.Name, name string) {
	dir.Right(l)
	dir.Encode(l)
	dir.Put(l, file(name))
	dir.Cut(l, name)
	dir.Find(l, name)
}

func TestArgumentsUnchanged(t *testing.T) {
	for _, list := range slices.Concat(edgeLists(), wrongLists()) {
		l, whole := roomy(list...)
		before := slices.Clone(whole)
		for _, s := range append(edgeNames(), "!", "b", "c", "zz", "") {
			askAll(l, s)
		}
		for _, n := range list[:min(len(list), 4)] {
			askAll(l, n.Name)
		}
		if !slices.Equal(whole, before) {
			t.Fatalf("changed from %v to %v", before, whole)
		}
	}
}

func TestNamesUnchanged(t *testing.T) {
	whole := []string{"a", "..", "", "b", "spare", "room"}
	before := slices.Clone(whole)
	for n := range 5 {
		dir.Join(whole[:n])
	}
	if !slices.Equal(whole, before) {
		t.Error("changed to ", whole)
	}
}

// scrawl writes over an answer and its spare room.
func scrawl[T any](l []T) {
	clear(l[:cap(l)])
}

// apart tells whether two answers of one call are right, the second also behind a scrawl over the first.
func apart[T comparable](t *testing.T, what string, call func() ([]T, api.Errno)) {
	t.Helper()
	one, _ := call()
	other, _ := call()
	keep := slices.Clone(one)
	scrawl(one)
	third, _ := call()
	if !slices.Equal(other, keep) || !slices.Equal(third, keep) {
		t.Errorf("%s: answers share memory", what)
	}
}

func TestAnswersAreNew(t *testing.T) {
	l, whole := roomy(file("b"), file("d"), file("f"))
	before := slices.Clone(whole)
	for _, s := range []string{"a", "c", "e", "g"} {
		apart(t, "Put", func() ([]api.Name, api.Errno) { return dir.Put(l, file(s)) })
	}
	for _, s := range []string{"b", "d", "f"} {
		apart(t, "Cut", func() ([]api.Name, api.Errno) { return dir.Cut(l, s) })
	}
	s, _ := dir.Encode(l)
	apart(t, "Decode", func() ([]api.Name, api.Errno) { return dir.Decode(s) })
	for _, path := range []string{"/a/b", "a/b/../c", "a/../b"} {
		apart(t, "Split", func() ([]string, api.Errno) { return dir.Split(path) })
	}
	if !slices.Equal(whole, before) {
		t.Error("an answer shares memory with the list: ", whole)
	}
}
