package pages_test

import (
	"encoding/binary"
	"slices"
	"testing"

	"gatehouse/api"
	"gatehouse/pages"
)

// pair is an object, and what it ought to hold.
type pair struct {
	b   *pages.Bytes
	row []byte
}

// step does one call of an object and of its model.
func (p *pair) step(t *testing.T, d *dice) {
	t.Helper()
	at, n := d.near(len(p.row)), d.near(len(p.row))
	switch d.roll(6) {
	case 0:
		p.read(t, at, n)
	case 1, 2:
		p.write(t, at, d.text(), d.text())
	case 3:
		p.word(t, at)
	case 4:
		p.setWord(t, at, uint64(d.roll(1<<31))<<33|uint64(d.roll(1<<31)))
	case 5:
		if d.roll(3) == 0 {
			n = d.near(most)
		}
		p.resize(t, n)
	}
}

func (p *pair) read(t *testing.T, at, n int) {
	t.Helper()
	s, e := p.b.Read(at, n)
	if !there(p.row, at, n) {
		errno(t, "Read", e, api.ErrFault)
		if s != "" {
			t.Errorf("Read(%d, %d) = %q beside an error", at, n, s)
		}
		return
	}
	if s != string(p.row[at:at+n]) || e != api.OK {
		t.Errorf("Read(%d, %d) = %q, %d", at, n, s, e)
	}
}

func (p *pair) write(t *testing.T, at int, parts ...string) {
	t.Helper()
	text := slices.Concat([]byte(parts[0]), []byte(parts[1]))
	e := p.b.Write(at, parts...)
	if !there(p.row, at, len(text)) {
		errno(t, "Write", e, api.ErrFault)
		return
	}
	errno(t, "Write", e, api.OK)
	copy(p.row[at:], text)
}

func (p *pair) word(t *testing.T, at int) {
	t.Helper()
	x, e := p.b.Word(at)
	if !there(p.row, at, 8) {
		if x != 0 || e != api.ErrFault {
			t.Errorf("Word(%d) = %x, %d", at, x, e)
		}
		return
	}
	if want := binary.LittleEndian.Uint64(p.row[at:]); x != want || e != api.OK {
		t.Errorf("Word(%d) = %x, %d, not %x", at, x, e, want)
	}
}

func (p *pair) setWord(t *testing.T, at int, x uint64) {
	t.Helper()
	e := p.b.SetWord(at, x)
	if !there(p.row, at, 8) {
		errno(t, "SetWord", e, api.ErrFault)
		return
	}
	errno(t, "SetWord", e, api.OK)
	binary.LittleEndian.PutUint64(p.row[at:], x)
}

func (p *pair) resize(t *testing.T, n int) {
	t.Helper()
	e := p.b.Resize(n)
	if n < 0 || n > most {
		errno(t, "Resize", e, api.ErrArg)
		return
	}
	errno(t, "Resize", e, api.OK)
	row := make([]byte, n)
	copy(row, p.row)
	p.row = row
}

// same tells whether object and model are still the same.
func (p *pair) same(t *testing.T) bool {
	t.Helper()
	s, e := p.b.Read(0, len(p.row))
	return e == api.OK && s == string(p.row) && p.b.Len() == len(p.row) && p.b.Pages() == (len(p.row)+63)/64
}

// TestRowsOfCalls: whatever row of calls, with copies among them, each object is what its model is, and the pages in which two differ are those of their models.
func TestRowsOfCalls(t *testing.T) {
	d := dice(3)
	for range 60 {
		n := d.roll(most + 1)
		all := []*pair{{made(t, n), make([]byte, n)}}
		for step := range 250 {
			p := all[d.roll(len(all))]
			if d.roll(12) == 0 {
				fresh := &pair{p.b.Copy(), slices.Clone(p.row)}
				if len(all) < 6 {
					all = append(all, fresh)
				} else {
					all[d.roll(6)] = fresh
				}
			} else {
				p.step(t, &d)
			}
			for i, p := range all {
				if !p.same(t) {
					t.Fatalf("step %d: object %d isn't as its model", step, i)
				}
			}
			o := all[d.roll(len(all))]
			unlike(t, p.b, o.b, differ(p.row, o.row)...)
			if t.Failed() {
				t.Fatalf("step %d", step)
			}
		}
	}
}
