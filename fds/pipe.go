package fds

import (
	"gatehouse/api"
	"gatehouse/ask"
)

// The numbers of a pipe's segment, ahead of its bytes.
const (
	pipeRead    = iota // how many bytes were read
	pipeWritten        // how many were written
	pipeReaders        // how many opens read
	pipeWriters        // how many write
	pipeNumbers        // how many numbers it has
)

// pipeBytes is where a pipe's bytes begin.
const pipeBytes = ask.Word * pipeNumbers

// Pipe: a pipe's two ends.
func (t *Table) Pipe(w api.Whence) (int, int, api.Errno) {
	d, e := t.begin(w)
	if e != api.OK {
		return 0, 0, e
	}
	free, e := d.free(2)
	if e != api.OK {
		return 0, 0, e
	}
	if e := d.makePipe(); e != api.OK {
		return 0, 0, e
	}
	d.set(free[0], w.Draw+1)
	d.set(free[1], w.Draw+2)
	return free[0], free[1], api.OK
}

// makePipe makes a pipe and its two ends, or nothing.
func (d desk) makePipe() api.Errno {
	p := [pipeNumbers + api.PipeRoom/ask.Word]int{pipeReaders: 1, pipeWriters: 1}
	r := open{openKind: readingEnd, openIn: d.home, openId: d.Draw, openSlots: 1, openHow: api.ForRead}
	w := open{openKind: writingEnd, openIn: d.home, openId: d.Draw, openSlots: 1, openHow: api.ForWrite}
	for i, numbers := range [][]int{p[:], r[:], w[:]} {
		if e := d.make(i, numbers); e != api.OK {
			for made := range i {
				d.Drop(d.ref(d.Draw + made))
			}
			return e
		}
	}
	return api.OK
}

// pipe is the pipe that a descriptor is an end of.
type pipe struct {
	descriptor
	numbers [pipeNumbers]int
}

// pipe answers the pipe as it is.
func (x descriptor) pipe() (pipe, api.Errno) {
	p := pipe{descriptor: x}
	e := x.Numbers(x.what(), 0, p.numbers[:])
	return p, e
}

// changes lets one of the pipe's numbers be so much more, and wakes who waits for that number.
func (p pipe) changes(number, more int) {
	p.SetNumbers(p.what(), number, p.numbers[number]+more)
	p.Wake(p.what(), ask.Word*number)
}

// held answers how many bytes the pipe holds; in one that others have written it could be any number.
func (p pipe) held() int {
	return min(max(p.numbers[pipeWritten]-p.numbers[pipeRead], 0), api.PipeRoom)
}

// take takes out the first bytes, at most so many.
func (p pipe) take(n int) (string, api.Errno) {
	held := p.held()
	switch {
	case held > 0:
		s, e := p.bytes(p.numbers[pipeRead], min(n, held))
		if e == api.OK {
			p.changes(pipeRead, len(s))
		}
		return s, e
	case p.numbers[pipeWriters] > 0:
		return "", api.ErrAgain
	}
	return "", api.OK
}

// put puts in as many bytes as there is room for.
func (p pipe) put(s string) (int, api.Errno) {
	room := api.PipeRoom - p.held()
	switch {
	case p.numbers[pipeReaders] <= 0:
		return 0, api.ErrPipe
	case room == 0:
		return 0, api.ErrAgain
	}
	s = s[:min(len(s), room)]
	if e := p.setBytes(p.numbers[pipeWritten], s); e != api.OK {
		return 0, e
	}
	p.changes(pipeWritten, len(s))
	return len(s), api.OK
}

// around answers where the n-th byte that is written stands, and how many of so many bytes stand from there on; the others begin anew.
func around(n, count int) (at, first int) {
	at = int(uint(n) % api.PipeRoom)
	return at, min(count, api.PipeRoom-at)
}

// bytes answers bytes from the n-th on that was written.
func (p pipe) bytes(n, count int) (string, api.Errno) {
	at, first := around(n, count)
	s, e := p.Read(p.what(), pipeBytes, api.PipeRoom)
	if e != api.OK {
		return "", e
	}
	return s[at:at+first] + s[:count-first], api.OK
}

// setBytes writes bytes, the first of them as the n-th.
func (p pipe) setBytes(n int, s string) api.Errno {
	at, first := around(n, len(s))
	if e := p.Write(p.what(), pipeBytes+at, s[:first]); e != api.OK {
		return e
	}
	return p.Write(p.what(), pipeBytes, s[first:])
}

// end answers which of the pipe's numbers the descriptor's open counts in.
func (p pipe) end() int {
	if p.open[openKind] == readingEnd {
		return pipeReaders
	}
	return pipeWriters
}

// leave lets the pipe have this end less; who waits there may find that the other end is alone.
func (p pipe) leave() {
	end := p.end()
	p.SetNumbers(p.what(), end, p.numbers[end]-1)
	p.Wake(p.what(), ask.Word*pipeRead)
	p.Wake(p.what(), ask.Word*pipeWritten)
	if p.numbers[pipeReaders]+p.numbers[pipeWriters] <= 1 {
		p.Drop(p.what())
	}
}

// Held: where one waits for a pipe.
func (t *Table) Held(w api.Whence, fd int) (seg, off, value int, e api.Errno) {
	x, e := t.descriptor(w, fd)
	switch {
	case e != api.OK:
		return 0, 0, 0, e
	case !x.isPipe():
		return 0, 0, 0, api.ErrInval
	}
	p, e := x.pipe()
	if e != api.OK {
		return 0, 0, 0, e
	}
	n := pipeRead
	if p.end() == pipeReaders {
		n = pipeWritten
	}
	return p.what().Id, ask.Word * n, p.numbers[n], api.OK
}
