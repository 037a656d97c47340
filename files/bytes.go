package files

import "gatehouse/api"

// maxBytes is how many bytes a file has at most.
const maxBytes = api.PageSize * api.MaxPages

// Read: bytes of a file.
func (f *Files) Read(w api.Whence, path string, at, n int) (string, api.Errno) {
	p, e := f.file(w, path)
	switch {
	case e != api.OK:
		return "", e
	case at < 0 || n < 0:
		return "", api.ErrInval
	}
	size, e := p.Size(p.ref())
	if e != api.OK {
		return "", e
	}
	at = min(at, size)
	return p.Read(p.ref(), at, min(n, size-at))
}

// Write: bytes into a file.
func (f *Files) Write(w api.Whence, path string, at int, s string) api.Errno {
	p, e := f.file(w, path)
	switch {
	case e != api.OK:
		return e
	case at < 0:
		return api.ErrInval
	}
	size, e := p.Size(p.ref())
	switch {
	case e != api.OK:
		return e
	case at > maxBytes-len(s):
		return api.ErrNoSpc
	case s == "":
		return p.Resize(p.ref(), size)
	}
	if e := p.Resize(p.ref(), max(size, at+len(s))); e != api.OK {
		return e
	}
	return p.Write(p.ref(), at, s)
}

// Cut: how long a file is.
func (f *Files) Cut(w api.Whence, path string, n int) api.Errno {
	p, e := f.file(w, path)
	switch {
	case e != api.OK:
		return e
	case n < 0:
		return api.ErrInval
	case n > maxBytes:
		return api.ErrNoSpc
	}
	return p.Resize(p.ref(), n)
}

// Stat: what a path names.
func (f *Files) Stat(w api.Whence, path string) (api.Stat, api.Errno) {
	p, e := f.anything(w, path)
	if e != api.OK {
		return api.Stat{}, e
	}
	s := api.Stat{Kind: p.Kind, Id: p.Id, In: p.box}
	if p.isRoot() {
		s.In = 0
	}
	if p.Kind == api.ADir {
		s.Label, s.Size, e = p.aboutDir()
	} else {
		s.Label, s.Size, e = p.aboutFile()
	}
	if e != api.OK {
		return api.Stat{}, e
	}
	return s, api.OK
}

// aboutFile answers the label of the file that is there, and how many bytes it has.
func (p place) aboutFile() (api.Label, int, api.Errno) {
	l, e := p.Look(p.ref())
	if e != api.OK {
		return api.Label{}, 0, e
	}
	n, e := p.Size(p.ref())
	return l, n, e
}

// aboutDir answers the label of the directory that is there, and how many entries it has.
func (p place) aboutDir() (api.Label, int, api.Errno) {
	d, e := p.enter()
	if e != api.OK {
		return api.Label{}, 0, e
	}
	l, e := p.Look(p.ref())
	if e != api.OK { // who opens a directory need not see what it lies in; its bytes have the same label
		l, e = p.Look(d.bytes)
	}
	return l, len(d.list), e
}

// List: a directory's entries.
func (f *Files) List(w api.Whence, path string) ([]api.Name, api.Errno) {
	p, e := f.walk(w, path)
	if e != api.OK {
		return nil, e
	}
	d, e := p.enter()
	return d.list, e
}
