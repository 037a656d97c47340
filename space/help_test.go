package space_test

import (
	"slices"
	"testing"

	"gatehouse/api"
	"gatehouse/space"
)

const (
	least   = -1 << 63
	highest = 1<<63 - 1
	last    = 1<<64 - 1
)

// seven and eight are the mappings of the chapter's examples.
var (
	seven = api.Map{At: 2, Pages: 1, In: 1, Id: 7, From: 3, Write: true}
	eight = api.Map{At: 3, Pages: 2, In: 1, Id: 8}
)

func errno(t *testing.T, what string, got, want api.Errno) {
	t.Helper()
	if got != want {
		t.Errorf("%s: error %d, not %d", what, got, want)
	}
}

// one is a mapping of a page, with a segment of its own.
func one(at int) api.Map { return api.Map{At: at, Pages: 1, In: 1, Id: at + 100} }

// row is n mappings of one page each, a page apart, from page 1 on.
func row(n int) []api.Map {
	var l []api.Map
	for i := range n {
		l = append(l, one(2*i+1))
	}
	return l
}

// wrongMaps are mappings that can't be, each by one field.
func wrongMaps() []api.Map {
	var list []api.Map
	with := func(change func(m *api.Map, n int), numbers ...int) {
		for _, n := range numbers {
			m := api.Map{At: 10, Pages: 2, In: 3, Id: 4, From: 5, Write: true, Run: true}
			change(&m, n)
			list = append(list, m)
		}
	}
	with(func(m *api.Map, n int) { m.Pages = n }, least, -1, 0, 60, 65, highest)
	with(func(m *api.Map, n int) { m.Pages, m.From = n, 0 }, least, -1, 0, 65, 1<<62, highest)
	with(func(m *api.Map, n int) { m.At = n }, least, -1, api.MaxVa-1, api.MaxVa, api.MaxVa+1, highest-1, highest)
	with(func(m *api.Map, n int) { m.From = n }, least, -1, 63, 64, 65, highest-1, highest)
	with(func(m *api.Map, n int) { m.In = n }, least, -1, 0, api.MaxId+1, highest)
	with(func(m *api.Map, n int) { m.Id = n }, least, -1, 0, api.MaxId+1, highest)
	return list
}

// edgeMaps are mappings that just can be.
func edgeMaps() []api.Map {
	return []api.Map{
		{At: 0, Pages: 1, In: 1, Id: 1, From: 0},
		{At: 0, Pages: 64, In: 1, Id: 1, From: 0},
		{At: 0, Pages: 1, In: 1, Id: 1, From: 63, Write: true},
		{At: 0, Pages: 2, In: 1, Id: 1, From: 62, Run: true},
		{At: api.MaxVa - 1, Pages: 1, In: 1, Id: 1, From: 0},
		{At: api.MaxVa - 64, Pages: 64, In: 1, Id: 1, From: 0, Write: true, Run: true},
		{At: 7, Pages: 3, In: api.MaxId, Id: 1, From: 61},
		{At: 7, Pages: 3, In: 1, Id: api.MaxId, From: 61},
	}
}

// wrongRows are rows that can't be: each of right mappings, but for the first ones.
func wrongRows() [][]api.Map {
	list := [][]api.Map{
		row(17),
		row(300),
		{eight, seven},
		{seven, seven},
		{one(5), one(5)},
		{one(1), one(9), one(5)},
		{{At: 4, Pages: 2, In: 1, Id: 1}, one(5)},
		{{At: 4, Pages: 64, In: 1, Id: 1}, one(67)},
		{{At: 4, Pages: 9, In: 1, Id: 1}, one(6), one(20)},
		{one(1), {At: 4, Pages: 2, In: 1, Id: 1}, {At: 4, Pages: 1, In: 1, Id: 1}},
		{one(6), {At: 5, Pages: 3, In: 1, Id: 1}},
	}
	for _, m := range wrongMaps() {
		list = append(list, []api.Map{m}, []api.Map{one(1), m}, []api.Map{m, one(900)}, []api.Map{one(1), m, one(900)})
	}
	return list
}

// put makes a row of mappings that can be put one by one.
func put(t *testing.T, maps ...api.Map) []api.Map {
	t.Helper()
	var l []api.Map
	for _, m := range maps {
		var e api.Errno
		if l, e = space.Put(l, m); e != api.OK {
			t.Fatalf("Put(%+v): error %d", m, e)
		}
	}
	return l
}

// rightMap says the words of the chapter one by one, with no sum that could wrap.
func rightMap(m api.Map) bool {
	within := func(n, from, to int) bool { return from <= n && n <= to }
	return within(m.Pages, 1, 64) && within(m.At, 0, 1<<26) && within(m.From, 0, 64) &&
		m.At+m.Pages <= 1<<26 && m.From+m.Pages <= 64 && within(m.In, 1, 1<<61-1) && within(m.Id, 1, 1<<61-1)
}

// rightRow goes through all pages of all mappings.
func rightRow(l []api.Map) bool {
	seen, before := map[int]bool{}, -1
	for _, m := range l {
		if !rightMap(m) || m.At <= before {
			return false
		}
		before = m.At
		for i := range m.Pages {
			if seen[m.At+i] {
				return false
			}
			seen[m.At+i] = true
		}
	}
	return len(l) <= 16
}

// byteAt is where one byte stands in a right row, and in which of its mappings; -1 if in none that may be used so.
func byteAt(l []api.Map, addr uint64, need int) (int, int) {
	for i, m := range l {
		for k := range m.Pages {
			allowed := need == api.ToRead || need == api.ToWrite && m.Write || need == api.ToRun && m.Run
			if addr/64 == uint64(m.At+k) && allowed {
				return i, (m.From+k)*64 + int(addr%64)
			}
		}
	}
	return -1, 0
}

// span is Span, byte by byte.
func span(l []api.Map, addr uint64, n, need int) ([]api.Piece, api.Errno) {
	if !rightRow(l) || n < 1 || n > 4096 || need != api.ToRead && need != api.ToWrite && need != api.ToRun {
		return nil, api.ErrArg
	}
	var list []api.Piece
	before := -1
	for k := range uint64(n) {
		i, off := byteAt(l, addr+k, need)
		if i < 0 || addr+k < addr {
			return nil, api.ErrFault
		}
		if i != before {
			list = append(list, api.Piece{In: l[i].In, Id: l[i].Id, Off: off})
		}
		list[len(list)-1].N++
		before = i
	}
	return list, api.OK
}

// spans tells whether Span answers those pieces.
func spans(t *testing.T, l []api.Map, addr uint64, n, need int, want ...api.Piece) {
	t.Helper()
	if got, e := space.Span(l, addr, n, need); e != api.OK || !slices.Equal(got, want) {
		t.Errorf("Span(%v, %d, %d, %d) = %v, %d, not %v", l, addr, n, need, got, e, want)
	}
}

// refuses tells whether Span answers that error, and nothing else.
func refuses(t *testing.T, l []api.Map, addr uint64, n, need int, want api.Errno) {
	t.Helper()
	if got, e := space.Span(l, addr, n, need); e != want || len(got) > 0 {
		t.Errorf("Span(%v, %d, %d, %d) = %v, %d, not error %d", l, addr, n, need, got, e, want)
	}
}

// dice is a row of numbers that look like chance, the same each time.
type dice uint64

func (d *dice) roll(n int) int {
	*d = *d*6364136223846793005 + 1442695040888963407
	return int(uint64(*d) >> 33 % uint64(n))
}

// pick answers one of a few.
func pick[T any](d *dice, some ...T) T { return some[d.roll(len(some))] }
