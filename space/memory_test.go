package space_test

import (
	"slices"
	"testing"

	"gatehouse/api"
	"gatehouse/space"
)

// roomy answers a row with spare room behind it, and all of that.
func roomy(maps ...api.Map) ([]api.Map, []api.Map) {
	whole := slices.Concat(maps, row(8))
	return whole[:len(maps)], whole
}

func TestArgumentsUnchanged(t *testing.T) {
	l, whole := roomy(one(10), one(20), one(30))
	before := slices.Clone(whole)
	for _, at := range []int{0, 9, 10, 11, 15, 20, 25, 30, 40, -1} {
		space.Right(l)
		space.Put(l, one(at))
		space.Cut(l, at)
		space.Find(l, uint64(at*64), api.ToRead)
		space.Span(l, uint64(at*64), 64, api.ToRead)
		if !slices.Equal(whole, before) {
			t.Fatalf("%d: changed to %v", at, whole)
		}
	}
}

func TestWrongArgumentsUnchanged(t *testing.T) {
	for _, maps := range wrongRows() {
		l, whole := roomy(maps...)
		before := slices.Clone(whole)
		space.Right(l)
		space.Put(l, one(500))
		space.Cut(l, l[0].At)
		space.Span(l, 64, 64, api.ToRead)
		if !slices.Equal(whole, before) {
			t.Fatalf("changed from %v to %v", before, whole)
		}
	}
}

// scrawl writes over an answer and its spare room.
func scrawl[T any](l []T) {
	clear(l[:cap(l)])
}

func TestAnswersAreNew(t *testing.T) {
	l, whole := roomy(one(10), one(20), one(30))
	before := slices.Clone(whole)
	for _, at := range []int{5, 15, 25, 35} {
		a, _ := space.Put(l, one(at))
		b, _ := space.Put(l, one(at))
		keep := slices.Clone(b)
		scrawl(a)
		if !slices.Equal(whole, before) || !slices.Equal(b, keep) {
			t.Fatalf("Put(%d) shares memory", at)
		}
	}
	for _, at := range []int{10, 20, 30} {
		a, _ := space.Cut(l, at)
		b, _ := space.Cut(l, at)
		keep := slices.Clone(b)
		scrawl(a)
		if !slices.Equal(whole, before) || !slices.Equal(b, keep) {
			t.Fatalf("Cut(%d) shares memory", at)
		}
	}
}

func TestPiecesAreNew(t *testing.T) {
	l := []api.Map{seven, eight}
	a, _ := space.Span(l, 190, 4, api.ToRead)
	b, _ := space.Span(l, 190, 4, api.ToRead)
	scrawl(a)
	if !slices.Equal(b, []api.Piece{{In: 1, Id: 7, Off: 254, N: 2}, {In: 1, Id: 8, N: 2}}) {
		t.Error("Span shares memory: ", b)
	}
	a, _ = space.Find(l, 128, api.ToRead)
	b, _ = space.Find(l, 128, api.ToRead)
	scrawl(a)
	if !slices.Equal(b, []api.Piece{{In: 1, Id: 7, Off: 192, N: 1}}) {
		t.Error("Find shares memory: ", b)
	}
}
