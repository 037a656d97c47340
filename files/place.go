package files

import (
	"slices"

	"gatehouse/api"
	"gatehouse/ask"
	"gatehouse/dir"
)

// folder is a directory that a thread has opened: its container, the segment that holds its bytes, the entries that these say.
type folder struct {
	ask.Caller
	box   int
	bytes api.Ref
	list  []api.Name
}

// open opens the directory of a container.
func open(c ask.Caller, box int) (folder, api.Errno) {
	told, e := c.Do(api.Call{Op: api.CallList, P: api.Ref{In: box}})
	if e != api.OK {
		return folder{}, e
	}
	if len(told.List) == 0 {
		return folder{}, api.ErrForm
	}
	bytes := api.Ref{In: box, Id: told.List[0]}
	n, e := c.Size(bytes)
	if e != api.OK {
		return folder{}, e
	}
	s, e := c.Read(bytes, 0, n)
	if e != api.OK {
		return folder{}, e
	}
	list, e := dir.Decode(s)
	if e != api.OK {
		return folder{}, e
	}
	return folder{Caller: c, box: box, bytes: bytes, list: list}, api.OK
}

// save lets the directory have these entries; the segment refuses the length, or nothing.
func (d folder) save(list []api.Name) api.Errno {
	s, e := dir.Encode(list)
	if e != api.OK {
		return e
	}
	if e := d.Resize(d.bytes, len(s)); e != api.OK {
		return e
	}
	return d.Write(d.bytes, 0, s)
}

// at answers the place of a name in the directory.
func (d folder) at(name string) place {
	n, there := dir.Find(d.list, name)
	if !there {
		n.Name = name
	}
	return place{folder: d, Name: n, there: there}
}

// has tells whether one of these names has the number.
func has(list []api.Name, id int) bool {
	return slices.ContainsFunc(list, func(n api.Name) bool { return n.Id == id })
}

// place is where a path leads: the directory that it stands in, and the entry that it has there, which but for its name is nothing if it isn't there.
type place struct {
	folder
	api.Name
	there bool
}

// isRoot: of all places the root alone has no name. It stands in no directory, but in the container that it was made in.
func (p place) isRoot() bool { return p.Name.Name == "" }

// ref names what is there to the kernel.
func (p place) ref() api.Ref { return api.Ref{In: p.box, Id: p.Id} }

// walk goes along a path, and opens all directories but what is at its end.
func (f *Files) walk(w api.Whence, path string) (place, api.Errno) {
	if f == nil {
		return place{}, api.ErrNone
	}
	names, e := dir.Split(path)
	if e != api.OK {
		return place{}, e
	}
	above := folder{Caller: ask.Caller{Kernel: f.kernel, Whence: w}, box: f.root.In}
	p := place{folder: above, Name: api.Name{Kind: api.ADir, Id: f.root.Id}, there: true}
	for _, name := range names {
		d, e := p.enter()
		if e != api.OK {
			return place{}, e
		}
		p = d.at(name)
	}
	return p, api.OK
}

// anything answers where a path leads, if there is anything.
func (f *Files) anything(w api.Whence, path string) (place, api.Errno) {
	p, e := f.walk(w, path)
	switch {
	case e != api.OK:
		return place{}, e
	case !p.there:
		return place{}, api.ErrNoEnt
	}
	return p, api.OK
}

// file answers where a path leads, if there is a file.
func (f *Files) file(w api.Whence, path string) (place, api.Errno) {
	p, e := f.anything(w, path)
	switch {
	case e != api.OK:
		return place{}, e
	case p.Kind == api.ADir:
		return place{}, api.ErrIsDir
	}
	return p, api.OK
}

// enter opens the directory that is there.
func (p place) enter() (folder, api.Errno) {
	switch {
	case !p.there:
		return folder{}, api.ErrNoEnt
	case p.Kind != api.ADir:
		return folder{}, api.ErrNotDir
	}
	return open(p.Caller, p.Id)
}

// empty tells whether the directory that is there has no entries.
func (p place) empty() api.Errno {
	d, e := p.enter()
	switch {
	case e != api.OK:
		return e
	case len(d.list) > 0:
		return api.ErrBusy
	}
	return api.OK
}

// with answers the directory's entries, and one more: the place's name with this kind and number.
func (p place) with(kind, id int) ([]api.Name, api.Errno) {
	if p.there { // also the root, which dir.Put would take for a wrong name
		return nil, api.ErrExist
	}
	return dir.Put(p.list, api.Name{Name: p.Name.Name, Kind: kind, Id: id})
}

// link gives a file the name of the place, too.
func (p place) link(file place) api.Errno {
	list, e := p.with(file.Kind, file.Id)
	if e != api.OK {
		return e
	}
	if !has(p.list, file.Id) {
		if _, e := p.Do(api.Call{Op: api.CallLink, P: file.ref(), Q: api.Ref{In: p.box}}); e != api.OK {
			return e
		}
	}
	if e := p.save(list); e != api.OK {
		p.unlink(file.Id)
		return e
	}
	return api.OK
}

// unlink undoes a link to the object: the directory has the entries that it had when it was opened.
func (p place) unlink(id int) {
	p.save(p.list)
	if !has(p.list, id) {
		p.Drop(api.Ref{In: p.box, Id: id})
	}
}

// remove takes the entry out of the directory, and the object with its last name there. What was dropped can't come back: then it is done, even where the bytes can't be written.
func (p place) remove() api.Errno {
	list, e := dir.Cut(p.list, p.Name.Name)
	if e != api.OK {
		return e
	}
	if has(list, p.Id) {
		return p.save(list)
	}
	if e := p.Drop(p.ref()); e != api.OK {
		return e
	}
	p.save(list)
	return api.OK
}

// removeNow is remove with the entries that the directory has by now: two directories may have their bytes in one segment.
func (p place) removeNow() api.Errno {
	d, e := open(p.Caller, p.box)
	if e != api.OK {
		return e
	}
	return d.at(p.Name.Name).remove()
}
