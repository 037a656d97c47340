package fds_test

import (
	"fmt"
	"testing"

	"gatehouse/api"
	"gatehouse/fds"
)

// An open as it is thought of: a place in one of some texts, or an end of a row of bytes. Who has one has the pointer.
type thought struct {
	file   *string
	place  int
	end    bool
	row    *[]byte
	others *int // how many still have the other end, of all tables
	mine   *int
}

// process is a table, and what is thought to be in its slots.
type process struct {
	*fds.Table
	slots [16]*thought
}

// free answers the lowest free slot, but for one.
func (p *process) free(but int) int {
	for fd, o := range p.slots {
		if o == nil && fd != but {
			return fd
		}
	}
	return -1
}

// TestShares: descriptors held against texts and rows of bytes without any kernel: what goes into pipes comes out, places are shared with whoever came of one another alone.
func TestShares(t *testing.T) {
	d := dice(163)
	through, moved := 0, 0
	for row := range 60 {
		b := bare(t)
		texts := map[string]*string{}
		for _, path := range []string{"/a", "/b"} {
			errno(t, "Make", b.f.Make(b.draw(owner), path, of("{1}"), 4096), api.OK)
			texts[path] = new(string)
		}
		all := []*process{{Table: b.Table}}
		for step := range 150 {
			i := d.roll(len(all))
			p, fd := all[i], d.roll(5)
			what := fmt.Sprintf("row %d, step %d", row, step)
			switch d.roll(9) {
			case 0:
				path := pick(&d, "/a", "/b")
				p.opens(t, what, b, path, texts[path])
			case 1:
				p.pipes(t, what, b)
			case 2:
				p.closes(t, what, fd)
			case 3:
				p.dups(t, what, fd)
			case 4:
				if u, e := p.Fork(b.draw(owner)); e == api.OK && len(all) < 5 {
					all = append(all, p.forked(u))
				} else if e == api.OK {
					u.Drop(by(owner))
				}
			case 5:
				if len(all) > 1 && d.roll(3) == 0 {
					p.drops(t, what)
					all = append(all[:i], all[i+1:]...)
				}
			case 6:
				moved += p.seeks(t, what, fd, d.roll(20))
			case 7:
				through += p.reads(t, what, fd, d.roll(70))
			case 8:
				p.writes(t, what, fd, fmt.Sprint("text", step, "of", row)[:d.roll(9)])
			}
		}
		b.right(t)
	}
	if through < 1000 || moved < 100 {
		t.Error("it says little: ", through, moved)
	}
}

func (p *process) opens(t *testing.T, what string, b *bench, path string, text *string) {
	t.Helper()
	want, e := p.free(-1), api.OK
	if want < 0 {
		want, e = 0, api.ErrMFile
	}
	fd, f := p.Open(b.draw(owner), path, 3)
	if fd != want || f != e {
		t.Fatalf("%s: Open: %d, %d", what, fd, f)
	}
	if e == api.OK {
		p.slots[fd] = &thought{file: text}
	}
}

func (p *process) pipes(t *testing.T, what string, b *bench) {
	t.Helper()
	r := p.free(-1)
	w := p.free(r)
	if w < 0 || r < 0 {
		return
	}
	x, y, e := p.Pipe(b.draw(owner))
	if x != r || y != w || e != api.OK {
		t.Fatalf("%s: Pipe: %d, %d, %d", what, x, y, e)
	}
	row, readers, writers := new([]byte), new(int), new(int)
	*readers, *writers = 1, 1
	p.slots[r] = &thought{end: true, row: row, mine: readers, others: writers}
	p.slots[w] = &thought{row: row, mine: writers, others: readers}
}

func (p *process) closes(t *testing.T, what string, fd int) {
	t.Helper()
	e := p.Close(by(owner), fd)
	if (e == api.OK) != (p.slots[fd] != nil) {
		t.Fatalf("%s: Close(%d): %d", what, fd, e)
	}
	p.lets(fd)
}

// lets lets a slot be free.
func (p *process) lets(fd int) {
	if o := p.slots[fd]; o != nil && o.mine != nil {
		*o.mine--
	}
	p.slots[fd] = nil
}

// takes lets a slot have what another one has.
func (p *process) takes(fd int, o *thought) {
	p.slots[fd] = o
	if o != nil && o.mine != nil {
		*o.mine++
	}
}

func (p *process) dups(t *testing.T, what string, fd int) {
	t.Helper()
	want := p.free(-1)
	if p.slots[fd] == nil || want < 0 {
		return
	}
	if n, e := p.Dup(by(owner), fd); n != want || e != api.OK {
		t.Fatalf("%s: Dup: %d, %d", what, n, e)
	}
	p.takes(want, p.slots[fd])
}

func (p *process) forked(u *fds.Table) *process {
	q := &process{Table: u}
	for fd, o := range p.slots {
		q.takes(fd, o)
	}
	return q
}

func (p *process) drops(t *testing.T, what string) {
	t.Helper()
	if e := p.Drop(by(owner)); e != api.OK {
		t.Fatal(what, e)
	}
	for fd := range p.slots {
		p.lets(fd)
	}
}

func (p *process) seeks(t *testing.T, what string, fd, at int) int {
	t.Helper()
	o := p.slots[fd]
	if o == nil || o.file == nil {
		return 0
	}
	if e := p.Seek(by(owner), fd, at); e != api.OK {
		t.Fatal(what, e)
	}
	o.place = at
	return 1
}

func (p *process) reads(t *testing.T, what string, fd, n int) int {
	t.Helper()
	o := p.slots[fd]
	s, e := p.Read(by(owner), fd, n)
	want, f := "", api.OK
	switch {
	case o == nil || o.file == nil && !o.end:
		f = api.ErrBadF
	case o.file != nil:
		for ; o.place < len(*o.file) && len(want) < n; o.place++ {
			want += (*o.file)[o.place : o.place+1]
		}
	case len(*o.row) > 0:
		for len(*o.row) > 0 && len(want) < n {
			want, *o.row = want+string((*o.row)[:1]), (*o.row)[1:]
		}
	case *o.others > 0 && n > 0:
		f = api.ErrAgain
	}
	if s != want || e != f {
		t.Fatalf("%s: Read(%d, %d): %q, %d, not %q, %d", what, fd, n, s, e, want, f)
	}
	return len(s)
}

func (p *process) writes(t *testing.T, what string, fd int, s string) {
	t.Helper()
	o := p.slots[fd]
	n, e := p.Write(by(owner), fd, s)
	want, f := len(s), api.OK
	switch {
	case o == nil || o.end:
		want, f = 0, api.ErrBadF
	case o.file != nil:
		x := []byte(*o.file)
		for s != "" && len(x) < o.place {
			x = append(x, 0)
		}
		for i := range len(s) {
			x = append(x[:o.place], append([]byte{s[i]}, x[min(o.place+1, len(x)):]...)...)
			o.place++
		}
		*o.file = string(x)
	case s == "":
	case *o.others == 0:
		want, f = 0, api.ErrPipe
	case len(*o.row) == 64:
		want, f = 0, api.ErrAgain
	default:
		want = min(len(s), 64-len(*o.row))
		*o.row = append(*o.row, s[:want]...)
	}
	if n != want || e != f {
		t.Fatalf("%s: Write(%d, %q): %d, %d, not %d, %d", what, fd, s, n, e, want, f)
	}
}
