package fds_test

import (
	"gatehouse/api"
	"gatehouse/files"
	"gatehouse/kern"
)

// model does what the chapter says, row by row, on a copy of the kernel: behind an error the copy is thrown away, so nothing has to be undone. What the thread may is asked by its calls; numbers are read and written from outside.
type model struct {
	k    *kern.Kernel
	f    *files.Files // of the kernel itself; a Stat changes nothing there
	w    api.Whence
	home int
	l    api.Label
	id   int // the table
}

// refused is the panic of a model whose call is refused.
type refused api.Errno

// wants answers what a call must answer, and the kernel that there must be behind it.
func wants(m model, c call) (a answer, e api.Errno, after *kern.Kernel) {
	k := m.k
	m.k = k.Copy()
	defer func() {
		if x := recover(); x != nil {
			a, e, after = answer{}, api.Errno(x.(refused)), k
		}
	}()
	return m.row(c), api.OK, m.k
}

func refuse(when bool, e api.Errno) {
	if when {
		panic(refused(e))
	}
}

// must does a call that refuses all, if it is refused.
func (m *model) must(c api.Call, draw int) api.Told {
	told, e := m.k.Do(m.w.Thread, c, draw)
	switch e {
	case api.OK:
	case api.ErrDead:
		refuse(true, e)
	case api.ErrLabel, api.ErrNone:
		refuse(true, api.ErrAcces)
	case api.ErrQuota, api.ErrFull:
		refuse(true, api.ErrNoSpc)
	default:
		refuse(true, api.ErrInval)
	}
	return told
}

// set changes one number of a segment.
func (m *model) set(id, n, x int) {
	o, _ := m.k.Object(id)
	if e := m.k.Fill(id, o.Bytes[:8*n]+bytesOf(x)+o.Bytes[8*n+8:]); e != api.OK {
		panic(e)
	}
}

// cell makes a segment of the family.
func (m *model) cell(draw int, list ...int) {
	n := 8 * len(list)
	m.must(api.Call{Op: api.CallCell, P: at(m.home, 0), L: m.l, A: n, B: n}, draw)
	m.k.Fill(draw, bytesOf(list...))
}

func (m *model) drop(id int) { m.must(api.Call{Op: api.CallDrop, P: at(m.home, id)}, 0) }

func (m *model) wake(id, off int) {
	m.must(api.Call{Op: api.CallWake, P: at(m.home, id), A: off}, 0)
}

// free answers the n-th slot that is free.
func (m *model) free(n int) int {
	for fd, id := range numbers(m.k, m.id) {
		if id == 0 {
			if n == 0 {
				return fd
			}
			n--
		}
	}
	panic(refused(api.ErrMFile))
}

// open answers what a slot names, and its numbers.
func (m *model) open(fd int) (int, []int) {
	refuse(fd < 0 || fd > 15, api.ErrBadF)
	id := numbers(m.k, m.id)[fd]
	refuse(id == 0, api.ErrBadF)
	return id, numbers(m.k, id)
}

func (m *model) row(c call) (a answer) {
	_, e := m.k.Do(m.w.Thread, api.Call{Op: api.CallWrite, P: at(m.home, m.id)}, 0)
	refuse(e == api.ErrDead, e)
	refuse(e != api.OK, api.ErrAcces)
	switch c.name {
	case "Open":
		a.N = m.opened(c.path, c.n)
	case "Pipe":
		a.N, a.M = m.free(0), m.free(1)
		p := m.w.Draw
		m.cell(p, 0, 0, 1, 1, 0, 0, 0, 0, 0, 0, 0, 0)
		m.cell(p+1, 2, m.home, p, 0, 1, api.ForRead)
		m.cell(p+2, 3, m.home, p, 0, 1, api.ForWrite)
		m.set(m.id, a.N, p+1)
		m.set(m.id, a.M, p+2)
	case "Close":
		m.close(c.fd)
	case "Dup":
		id, o := m.open(c.fd)
		a.N = m.free(0)
		m.set(m.id, a.N, id)
		m.set(id, 4, o[4]+1)
	case "Read":
		a.S = m.read(c.fd, c.n)
	case "Write":
		a.N = m.write(c.fd, c.s)
	case "Seek":
		id, o := m.open(c.fd)
		refuse(o[0] != 1, api.ErrSPipe)
		refuse(c.n < 0 || c.n > 1<<40, api.ErrInval)
		m.set(id, 3, c.n)
	case "Fork":
		a.Table = m.fork()
	case "Drop":
		for fd, id := range numbers(m.k, m.id) {
			if id != 0 {
				m.close(fd)
			}
		}
		m.drop(m.id)
	case "Slots":
		for fd, id := range numbers(m.k, m.id) {
			if id != 0 {
				a.List = append(a.List, fd)
			}
		}
	case "Held":
		_, o := m.open(c.fd)
		refuse(o[0] == 1, api.ErrInval)
		n := 3 - o[0] // 1 of a reading end, 0 of a writing one
		a.Held = [3]int{o[2], 8 * n, numbers(m.k, o[2])[n]}
	}
	return a
}

func (m *model) opened(path string, how int) int {
	refuse(how < 0 || how > 7 || how&3 == 0 || how&4 != 0 && how&2 == 0, api.ErrInval)
	s, e := m.f.Stat(m.w, path)
	refuse(e != api.OK, e)
	refuse(s.Kind == api.ADir, api.ErrIsDir)
	if how&2 != 0 {
		m.must(api.Call{Op: api.CallWrite, P: at(s.In, s.Id)}, 0)
	}
	fd := m.free(0)
	m.cell(m.w.Draw, 1, s.In, s.Id, 0, 1, how)
	m.set(m.id, fd, m.w.Draw)
	return fd
}

func (m *model) close(fd int) {
	id, o := m.open(fd)
	m.set(m.id, fd, 0)
	m.set(id, 4, o[4]-1)
	if o[4] > 1 {
		return
	}
	m.drop(id)
	if o[0] == 1 {
		return
	}
	p := o[2]
	m.set(p, o[0], 0) // the third number of a reading end, the fourth of a writing one: there is one of each
	m.wake(p, 0)
	m.wake(p, 8)
	if n := numbers(m.k, p); n[2] == 0 && n[3] == 0 {
		m.drop(p)
	}
}

func (m *model) fork() int {
	slots := numbers(m.k, m.id)
	m.cell(m.w.Draw, slots...)
	for _, id := range slots {
		if id != 0 {
			m.set(id, 4, numbers(m.k, id)[4]+1)
		}
	}
	return m.w.Draw
}

// size answers how many bytes a file has.
func (m *model) size(o []int) int {
	told, e := m.k.Do(m.w.Thread, api.Call{Op: api.CallSize, P: at(o[1], o[2])}, 0)
	refuse(e == api.ErrNone, api.ErrNoEnt)
	refuse(e != api.OK, api.ErrAcces)
	return told.N
}

func (m *model) read(fd, n int) string {
	id, o := m.open(fd)
	refuse(o[0] == 3 || o[5]&1 == 0, api.ErrBadF)
	refuse(n < 0, api.ErrInval)
	var out []byte
	if o[0] == 1 {
		size := m.size(o)
		s := m.must(api.Call{Op: api.CallRead, P: at(o[1], o[2]), B: size}, 0).S
		for i := o[3]; i < size && len(out) < n; i++ {
			out = append(out, s[i])
		}
		m.set(id, 3, o[3]+len(out))
		return string(out)
	}
	p := numbers(m.k, o[2])
	if n == 0 || p[0] == p[1] && p[3] == 0 {
		return ""
	}
	refuse(p[0] == p[1], api.ErrAgain)
	x, _ := m.k.Object(o[2])
	for ; p[0] < p[1] && len(out) < n; p[0]++ {
		out = append(out, x.Bytes[32+p[0]%64])
	}
	m.set(o[2], 0, p[0])
	m.wake(o[2], 0)
	return string(out)
}

func (m *model) write(fd int, s string) int {
	id, o := m.open(fd)
	refuse(o[0] == 2 || o[5]&2 == 0, api.ErrBadF)
	if o[0] == 1 {
		size, from := m.size(o), o[3]
		if o[5]&4 != 0 {
			from = size
		}
		refuse(s != "" && from+len(s) > 4096, api.ErrNoSpc)
		m.must(api.Call{Op: api.CallWrite, P: at(o[1], o[2])}, 0)
		for i := range len(s) {
			if n := from + i + 1; n > size {
				m.must(api.Call{Op: api.CallResize, P: at(o[1], o[2]), A: n}, 0)
			}
			m.must(api.Call{Op: api.CallWrite, P: at(o[1], o[2]), A: from + i, S: s[i : i+1]}, 0)
		}
		m.set(id, 3, from+len(s))
		return len(s)
	}
	if s == "" {
		return 0
	}
	p := numbers(m.k, o[2])
	refuse(p[2] == 0, api.ErrPipe)
	refuse(p[1]-p[0] == 64, api.ErrAgain)
	n := 0
	for ; p[1]-p[0] < 64 && n < len(s); n++ {
		x, _ := m.k.Object(o[2])
		i := 32 + p[1]%64
		m.k.Fill(o[2], x.Bytes[:i]+s[n:n+1]+x.Bytes[i+1:])
		p[1]++
	}
	m.set(o[2], 1, p[1])
	m.wake(o[2], 8)
	return n
}
