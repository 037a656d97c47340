package files_test

import (
	"slices"

	"gatehouse/api"
	"gatehouse/dir"
	"gatehouse/kern"
)

// model does what the chapter says, row by row, by nothing but calls of the thread to a copy of the kernel: behind an error the copy is thrown away, so nothing has to be undone.
type model struct {
	k    *kern.Kernel
	root int
	w    api.Whence
}

// refused is the panic of a model whose call is refused.
type refused api.Errno

// wants answers what a call must answer, and the kernel that there must be behind it.
func wants(k *kern.Kernel, root int, w api.Whence, c call) (a answer, e api.Errno, after *kern.Kernel) {
	m := model{k: k.Copy(), root: root, w: w}
	defer func() {
		if x := recover(); x != nil {
			a, e, after = answer{}, api.Errno(x.(refused)), k.Copy()
		}
	}()
	return m.row(c), api.OK, m.k
}

func refuse(when bool, e api.Errno) {
	if when {
		panic(refused(e))
	}
}

// try does a call of the thread; its error has the library's name.
func (m *model) try(c api.Call, draw int) (api.Told, api.Errno) {
	told, e := m.k.Do(m.w.Thread, c, draw)
	names := map[api.Errno]api.Errno{api.OK: api.OK, api.ErrLabel: api.ErrAcces, api.ErrNone: api.ErrAcces, api.ErrQuota: api.ErrNoSpc, api.ErrFull: api.ErrNoSpc, api.ErrDead: api.ErrDead}
	if name, ok := names[e]; ok {
		return told, name
	}
	return told, api.ErrInval
}

// must does a call that refuses all, if it is refused.
func (m *model) must(c api.Call, draw int) api.Told {
	told, e := m.try(c, draw)
	refuse(e != api.OK, e)
	return told
}

// spot is where a path leads in the model. in is 0 of the root.
type spot struct {
	in   int
	list []api.Name
	name string
	n    api.Name
	ok   bool
}

func (m *model) opened(box int) []api.Name {
	list := m.must(api.Call{Op: api.CallList, P: at(box, 0)}, 0).List
	refuse(len(list) == 0, api.ErrForm)
	size := m.must(api.Call{Op: api.CallSize, P: at(box, list[0])}, 0).N
	l, e := dir.Decode(m.must(api.Call{Op: api.CallRead, P: at(box, list[0]), B: size}, 0).S)
	refuse(e != api.OK, api.ErrForm)
	return l
}

func (m *model) spot(path string) spot {
	names, e := dir.Split(path)
	refuse(e != api.OK, e)
	p := spot{n: api.Name{Kind: api.ADir, Id: m.root}, ok: true}
	for _, name := range names {
		refuse(!p.ok, api.ErrNoEnt)
		refuse(p.n.Kind != api.ADir, api.ErrNotDir)
		p = spot{in: p.n.Id, list: m.opened(p.n.Id), name: name}
		p.n, p.ok = dir.Find(p.list, name)
	}
	return p
}

func (m *model) anything(path string) spot {
	p := m.spot(path)
	refuse(!p.ok, api.ErrNoEnt)
	return p
}

func (m *model) file(path string) spot {
	p := m.anything(path)
	refuse(p.n.Kind == api.ADir, api.ErrIsDir)
	return p
}

// tryWritten lets a directory have these entries: the segment is the one that it has as its first entry when the call begins.
func (m *model) tryWritten(cell api.Ref, l []api.Name) api.Errno {
	s, _ := dir.Encode(l)
	if _, e := m.try(api.Call{Op: api.CallResize, P: cell, A: len(s)}, 0); e != api.OK {
		return e
	}
	_, e := m.try(api.Call{Op: api.CallWrite, P: cell, S: s}, 0)
	return e
}

func (m *model) cell(box int) api.Ref {
	return at(box, m.must(api.Call{Op: api.CallList, P: at(box, 0)}, 0).List[0])
}

func (m *model) written(box int, l []api.Name) {
	e := m.tryWritten(m.cell(box), l)
	refuse(e != api.OK, e)
}

func (m *model) put(p spot, kind, id int) []api.Name {
	refuse(p.ok, api.ErrExist)
	l, e := dir.Put(p.list, api.Name{Name: p.name, Kind: kind, Id: id})
	refuse(e != api.OK, e)
	return l
}

func (m *model) row(c call) (a answer) {
	switch c.name {
	case "Make", "Mkdir":
		m.make(c)
	case "Remove":
		m.remove(c.path)
	case "Link":
		m.link(m.file(c.path), c.to)
	case "Rename":
		m.rename(c.path, c.to)
	case "Read":
		a.S = m.read(c)
	case "Write":
		m.write(c)
	case "Cut":
		p := m.file(c.path)
		refuse(c.n < 0, api.ErrInval)
		refuse(c.n > 4096, api.ErrNoSpc)
		m.must(api.Call{Op: api.CallResize, P: at(p.in, p.n.Id), A: c.n}, 0)
	case "Stat":
		a.Stat = m.stat(c.path)
	case "List":
		p := m.anything(c.path)
		refuse(p.n.Kind != api.ADir, api.ErrNotDir)
		a.List = m.opened(p.n.Id)
	}
	return a
}

func (m *model) make(c call) {
	p, kind := m.spot(c.path), api.AFile
	if c.name == "Mkdir" {
		kind = api.ADir
	}
	l := m.put(p, kind, m.w.Draw)
	if kind == api.AFile {
		m.must(api.Call{Op: api.CallCell, P: at(p.in, 0), L: c.l, A: c.quota}, m.w.Draw)
	} else {
		m.must(api.Call{Op: api.CallBox, P: at(p.in, 0), L: c.l, A: c.quota}, m.w.Draw)
		m.must(api.Call{Op: api.CallCell, P: at(m.w.Draw, 0), L: c.l, A: 4096}, m.w.Draw+1)
	}
	m.written(p.in, l)
}

func (m *model) remove(path string) {
	p := m.anything(path)
	refuse(p.in == 0, api.ErrInval)
	if p.n.Kind == api.ADir {
		refuse(len(m.opened(p.n.Id)) > 0, api.ErrBusy)
	}
	l, _ := dir.Cut(p.list, p.name)
	cell, last := m.cell(p.in), true
	for _, n := range l {
		last = last && n.Id != p.n.Id
	}
	if last {
		m.must(api.Call{Op: api.CallDrop, P: at(p.in, p.n.Id)}, 0)
	}
	e := m.tryWritten(cell, l)
	refuse(e != api.OK && !last, e)
}

func (m *model) link(file spot, path string) {
	p := m.spot(path)
	l := m.put(p, file.n.Kind, file.n.Id)
	if !slices.ContainsFunc(p.list, func(n api.Name) bool { return n.Id == file.n.Id }) {
		m.must(api.Call{Op: api.CallLink, P: at(file.in, file.n.Id), Q: at(p.in, 0)}, 0)
	}
	m.written(p.in, l)
}

func (m *model) rename(old, path string) {
	from := m.anything(old)
	to := m.spot(path)
	refuse(from.in == 0, api.ErrInval)
	if from.in == to.in && from.name == to.name {
		return
	}
	refuse(to.ok, api.ErrExist)
	if from.in == to.in {
		to.list, _ = dir.Cut(to.list, from.name)
		m.written(to.in, m.put(to, from.n.Kind, from.n.Id))
		return
	}
	refuse(from.n.Kind == api.ADir, api.ErrInval)
	m.link(from, path)
	m.remove(old)
}

func (m *model) read(c call) string {
	p := m.file(c.path)
	refuse(c.at < 0 || c.n < 0, api.ErrInval)
	size := m.must(api.Call{Op: api.CallSize, P: at(p.in, p.n.Id)}, 0).N
	s := m.must(api.Call{Op: api.CallRead, P: at(p.in, p.n.Id), B: size}, 0).S
	var out []byte
	for i := range len(s) {
		if i >= c.at && len(out) < c.n {
			out = append(out, s[i])
		}
	}
	return string(out)
}

func (m *model) write(c call) {
	p := m.file(c.path)
	refuse(c.at < 0, api.ErrInval)
	r := at(p.in, p.n.Id)
	size := m.must(api.Call{Op: api.CallSize, P: r}, 0).N
	refuse(uint64(c.at)+uint64(len(c.s)) > 4096, api.ErrNoSpc)
	if c.s != "" && size < c.at+len(c.s) {
		size = c.at + len(c.s)
	}
	m.must(api.Call{Op: api.CallResize, P: r, A: size}, 0)
	for i := range len(c.s) {
		m.must(api.Call{Op: api.CallWrite, P: r, A: c.at + i, S: c.s[i : i+1]}, 0)
	}
}

// stat asks the kernel from outside for a directory's label: the chapter doesn't say by which call it comes.
func (m *model) stat(path string) api.Stat {
	p := m.anything(path)
	s := api.Stat{Kind: p.n.Kind, Id: p.n.Id, In: p.in}
	if s.Kind == api.ADir {
		s.Size = len(m.opened(p.n.Id))
		o, _ := m.k.Object(p.n.Id)
		s.Label = o.Label
		return s
	}
	s.Label = m.must(api.Call{Op: api.CallLook, P: at(p.in, p.n.Id)}, 0).L
	s.Size = m.must(api.Call{Op: api.CallSize, P: at(p.in, p.n.Id)}, 0).N
	return s
}
