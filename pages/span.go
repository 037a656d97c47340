package pages

import (
	"iter"
	"strings"

	"gatehouse/api"
)

// wordBytes is how many bytes a number has.
const wordBytes = 8

// piece is what of a span lies in one page: its bytes from one place up to another.
type piece struct {
	page, from, to int
}

// pieces goes through the n bytes from at on, page by page.
func pieces(at, n int) iter.Seq[piece] {
	return func(yield func(piece) bool) {
		for from, end := at, at+n; from < end; {
			next := min(end, from-from%api.PageSize+api.PageSize)
			p := piece{page: from / api.PageSize, from: from % api.PageSize}
			p.to = p.from + next - from
			if !yield(p) {
				return
			}
			from = next
		}
	}
}

// check tells whether the n bytes from at on are there; asked this way round, no sum can wrap.
func (b *Bytes) check(at, n int) api.Errno {
	if b == nil {
		return api.ErrNone
	}
	if at < 0 || n < 0 || n > b.n-at {
		return api.ErrFault
	}
	return api.OK
}

// Read: n bytes from at on.
func (b *Bytes) Read(at, n int) (string, api.Errno) {
	if e := b.check(at, n); e != api.OK {
		return "", e
	}
	var s strings.Builder
	s.Grow(n)
	for p := range pieces(at, n) {
		s.Write(b.leaves[p.page].page[p.from:p.to])
	}
	return s.String(), api.OK
}

// Write: the parts stand from at on.
func (b *Bytes) Write(at int, parts ...string) api.Errno {
	n := 0
	for _, s := range parts {
		n += len(s)
	}
	if e := b.check(at, n); e != api.OK {
		return e
	}
	for _, s := range parts {
		b.put(at, s)
		at += len(s)
	}
	return api.OK
}

// put writes a part where there is room for it.
func (b *Bytes) put(at int, s string) {
	for p := range pieces(at, len(s)) {
		done := copy(b.open(p.page)[p.from:p.to], s)
		s = s[done:]
	}
}

// Word: eight bytes as a number.
func (b *Bytes) Word(at int) (uint64, api.Errno) {
	s, e := b.Read(at, wordBytes)
	if e != api.OK {
		return 0, e
	}
	x := uint64(0)
	for i := range wordBytes {
		x |= uint64(s[i]) << (8 * i)
	}
	return x, api.OK
}

// SetWord: a number as eight bytes.
func (b *Bytes) SetWord(at int, x uint64) api.Errno {
	var row [wordBytes]byte
	for i := range row {
		row[i] = byte(x >> (8 * i))
	}
	return b.Write(at, string(row[:]))
}
