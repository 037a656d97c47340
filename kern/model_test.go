package kern_test

import (
	"maps"
	"slices"

	"gatehouse/api"
	"gatehouse/label"
	"gatehouse/passage"
)

// model is a kernel as the chapter tells of it: all objects as they are answered, in one map, written row by row. Lists in it are never changed in place, so that a copy of the map is a copy of all.
type model struct {
	all   map[int]api.Object
	drawn map[int]bool
	ticks int
}

func newModel() *model {
	return &model{
		all: map[int]api.Object{
			1: {Info: api.Info{Id: 1, Kind: api.Container, Quota: api.MaxQuota, Used: 2, Links: 1, Label: of("{1}")}, List: []int{2, 3}},
			2: {Info: api.Info{Id: 2, Kind: api.Device, Quota: 1, Links: 1, Label: of("{1}")}},
			3: {Info: api.Info{Id: 3, Kind: api.Thread, Quota: 1, Links: 1, Label: of("{1}")}, Clear: of("{3}")},
		},
		drawn: map[int]bool{1: true, 2: true, 3: true},
	}
}

func (m *model) copied() *model {
	return &model{maps.Clone(m.all), maps.Clone(m.drawn), m.ticks}
}

// fail ends a call with an error, if that is so.
func fail(so bool, e api.Errno) {
	if so {
		panic(e)
	}
}

func failBy(e api.Errno) { fail(e != api.OK, e) }

// whole does a call whole or not at all.
func (m *model) whole(call func() api.Told) (told api.Told, e api.Errno) {
	saved := m.copied()
	defer func() {
		if x := recover(); x != nil {
			*m, told, e = *saved, api.Told{}, x.(api.Errno)
		}
	}()
	return call(), api.OK
}

func (m *model) runs(thread int) {
	fail(m.all[thread].Kind != api.Thread || m.all[thread].Does != api.Runs, api.ErrDead)
}

func (m *model) sees(thread int, id int) bool {
	return label.Sees(m.all[thread].Label, m.all[id].Label)
}

func (m *model) alters(thread int, id int) bool {
	return label.Alters(m.all[thread].Label, m.all[id].Label)
}

func (m *model) box(thread, in int) api.Object {
	fail(m.all[in].Kind != api.Container || !m.sees(thread, in), api.ErrNone)
	return m.all[in]
}

func (m *model) named(thread int, r api.Ref) api.Object {
	fail(!slices.Contains(m.box(thread, r.In).List, r.Id), api.ErrNone)
	return m.all[r.Id]
}

func (m *model) ofKind(thread int, r api.Ref, kind int) api.Object {
	o := m.named(thread, r)
	fail(o.Kind != kind, api.ErrKind)
	return o
}

func (m *model) seen(thread int, r api.Ref, kind int) api.Object {
	o := m.ofKind(thread, r, kind)
	fail(!m.sees(thread, r.Id), api.ErrLabel)
	return o
}

func (m *model) altered(thread int, r api.Ref, kind int) api.Object {
	o := m.ofKind(thread, r, kind)
	fail(!m.alters(thread, r.Id), api.ErrLabel)
	return o
}

// make makes a new object; own are the errors of its row.
func (m *model) make(thread int, c api.Call, draw, kind, in int, own func()) api.Object {
	t, box := m.all[thread], m.box(thread, in)
	owner := kind == api.Thread || kind == api.Gate
	fail(!owner && !label.Free(c.L) || owner && (!label.Plain(c.L) || !label.Free(c.M)), api.ErrArg)
	failBy(passage.Make(t.Label, t.Clear, box.Label, c.L))
	if owner {
		failBy(passage.Lend(t.Label, t.Clear, c.L, c.M))
	}
	own()
	fail(c.A < 1 || c.A > api.MaxQuota, api.ErrArg)
	fail(draw < 1 || draw > api.MaxId || m.drawn[draw], api.ErrId)
	fail(len(m.all) >= api.MaxObjects, api.ErrFull)
	fail(c.A > box.Quota-box.Used, api.ErrQuota)
	m.drawn[draw] = true
	box.List, box.Used = slices.Concat(box.List, []int{draw}), box.Used+c.A
	m.all[in] = box
	o := api.Object{Info: api.Info{Id: draw, Kind: kind, Quota: c.A, Links: 1, Label: c.L}}
	if owner {
		o.Clear, o.Space = c.M, c.Q
	}
	return o
}

// drop takes a link away, and what is gone by it.
func (m *model) drop(in, id int) {
	box, o := m.all[in], m.all[id]
	box.List = slices.DeleteFunc(slices.Clone(box.List), func(n int) bool { return n == id })
	box.Used -= o.Quota
	m.all[in] = box
	o.Links--
	m.all[id] = o
	if o.Links > 0 {
		return
	}
	for _, n := range o.List {
		m.drop(id, n)
	}
	delete(m.all, id)
	m.wake(func(t api.Object) bool { return t.Seg == id })
}

// wake lets all run that wait and are meant.
func (m *model) wake(meant func(api.Object) bool) {
	for id, o := range m.all {
		if o.Does == api.Waits && meant(o) {
			o.Does, o.Seg, o.Off = api.Runs, 0, 0
			m.all[id] = o
		}
	}
}

// word answers eight bytes as a number.
func word(s string, from int) uint64 {
	fail(from < 0 || from > len(s)-8, api.ErrFault)
	x := uint64(0)
	for i := range 8 {
		x = x<<8 | uint64(s[from+7-i])
	}
	return x
}

func (m *model) do(thread int, c api.Call, draw int) (api.Told, api.Errno) {
	return m.whole(func() api.Told {
		m.runs(thread)
		switch {
		case c.Op < 1 || c.Op > 32:
			panic(api.ErrArg)
		case c.Op >= 4 && c.Op <= 8 || c.Op == 18:
			return m.doMake(thread, c, draw)
		case c.Op >= 9 && c.Op <= 13:
			return m.doBoxes(thread, c)
		case c.Op >= 14 && c.Op <= 17 || c.Op == 22 || c.Op == 23:
			return m.doBytes(thread, c)
		case c.Op >= 19 && c.Op <= 21:
			return m.doMaps(thread, c)
		case c.Op == 27 || c.Op == 28:
			return m.doLines(thread, c)
		}
		return m.doSelf(thread, c, draw)
	})
}

func (m *model) doMake(thread int, c api.Call, draw int) api.Told {
	var o api.Object
	placed := func() { fail(c.B < 0, api.ErrArg) }
	switch c.Op {
	case 4:
		o = m.make(thread, c, draw, api.Container, c.P.In, func() {})
	case 5:
		o = m.make(thread, c, draw, api.Segment, c.P.In, func() {
			fail(c.B < 0 || c.B > 4096, api.ErrArg)
			fail(c.B > c.A, api.ErrQuota)
		})
		o.Bytes = string(make([]byte, c.B))
	case 6:
		o = m.make(thread, c, draw, api.Space, c.P.In, func() {})
	case 7:
		o = m.make(thread, c, draw, api.Thread, c.P.In, placed)
		o.State.Pc, o.State.R[1] = uint64(c.B), uint64(c.C)
	case 8:
		o = m.make(thread, c, draw, api.Gate, c.P.In, placed)
		o.Entry = uint64(c.B)
	case 18:
		from := m.seen(thread, c.P, api.Segment)
		o = m.make(thread, c, draw, api.Segment, c.Q.In, func() { fail(len(from.Bytes) > c.A, api.ErrQuota) })
		o.Bytes = from.Bytes
	}
	m.all[draw] = o
	return api.Told{N: draw}
}

func (m *model) doBoxes(thread int, c api.Call) api.Told {
	switch c.Op {
	case 9:
		t, o := m.all[thread], m.named(thread, c.P)
		fail(!m.alters(thread, c.P.Id), api.ErrLabel)
		box := m.box(thread, c.Q.In)
		failBy(passage.Make(t.Label, t.Clear, box.Label, o.Label))
		fail(o.Kind != api.Segment && o.Kind != api.Gate, api.ErrKind)
		fail(slices.Contains(box.List, o.Id), api.ErrArg)
		fail(o.Quota > box.Quota-box.Used, api.ErrQuota)
		o.Links++
		box.List, box.Used = slices.Concat(box.List, []int{o.Id}), box.Used+o.Quota
		m.all[o.Id], m.all[box.Id] = o, box
	case 10:
		m.named(thread, c.P)
		fail(!m.alters(thread, c.P.In), api.ErrLabel)
		m.drop(c.P.In, c.P.Id)
	case 11:
		o := m.named(thread, c.P)
		box := m.all[c.P.In]
		fail(!m.alters(thread, c.P.In) || !m.alters(thread, c.P.Id), api.ErrLabel)
		fail(o.Kind != api.Container, api.ErrKind)
		fail(c.A < -api.MaxQuota || c.A > api.MaxQuota, api.ErrArg)
		fail(c.A > box.Quota-box.Used || -c.A > o.Quota-o.Used || o.Quota+c.A < 1 || o.Quota+c.A > api.MaxQuota, api.ErrQuota)
		o.Quota += c.A
		box.Used += c.A
		m.all[o.Id], m.all[box.Id] = o, box
	case 12:
		return api.Told{List: m.box(thread, c.P.In).List}
	case 13:
		o := m.named(thread, c.P)
		fail(!m.sees(thread, c.P.Id), api.ErrLabel)
		return api.Told{N: o.Kind, L: o.Label, List: []int{o.Quota}}
	}
	return api.Told{}
}

func (m *model) doBytes(thread int, c api.Call) api.Told {
	switch c.Op {
	case 14:
		o := m.seen(thread, c.P, api.Segment)
		fail(c.A < 0 || c.B < 0 || c.A > len(o.Bytes) || c.B > len(o.Bytes)-c.A, api.ErrFault)
		return api.Told{S: o.Bytes[c.A : c.A+c.B]}
	case 15:
		o := m.altered(thread, c.P, api.Segment)
		fail(c.A < 0 || c.A > len(o.Bytes) || len(c.S) > len(o.Bytes)-c.A, api.ErrFault)
		o.Bytes = o.Bytes[:c.A] + c.S + o.Bytes[c.A+len(c.S):]
		m.all[o.Id] = o
	case 16:
		return api.Told{N: len(m.seen(thread, c.P, api.Segment).Bytes)}
	case 17:
		o := m.altered(thread, c.P, api.Segment)
		fail(c.A < 0 || c.A > 4096, api.ErrArg)
		fail(c.A > o.Quota, api.ErrQuota)
		o.Bytes = (o.Bytes + string(make([]byte, 4096)))[:c.A]
		m.all[o.Id] = o
	case 22:
		o := m.seen(thread, c.P, api.Segment)
		if word(o.Bytes, c.A) != uint64(c.B) {
			return api.Told{N: 1}
		}
		t := m.all[thread]
		fail(len(t.Alerts) > 0, api.ErrAgain)
		t.Does, t.Seg, t.Off = api.Waits, c.P.Id, c.A
		m.all[thread] = t
	case 23:
		o := m.altered(thread, c.P, api.Segment)
		word(o.Bytes, c.A)
		m.wake(func(t api.Object) bool { return t.Seg == c.P.Id && t.Off == c.A })
	}
	return api.Told{}
}

func (m *model) doMaps(thread int, c api.Call) api.Told {
	if c.Op == 21 {
		return api.Told{Maps: m.seen(thread, c.P, api.Space).Maps}
	}
	o := m.altered(thread, c.P, api.Space)
	if c.Op == 20 {
		there := func(x api.Map) bool { return x.At == c.A }
		fail(!slices.ContainsFunc(o.Maps, there), api.ErrNone)
		o.Maps = slices.DeleteFunc(slices.Clone(o.Maps), there)
	} else {
		fail(!rightRow([]api.Map{c.Map}), api.ErrArg)
		for _, x := range o.Maps {
			fail(x.At < c.Map.At+c.Map.Pages && c.Map.At < x.At+x.Pages, api.ErrForm)
		}
		fail(len(o.Maps) == 16, api.ErrFull)
		o.Maps = slices.Concat(o.Maps, []api.Map{c.Map})
		slices.SortFunc(o.Maps, func(a, b api.Map) int { return a.At - b.At })
	}
	m.all[o.Id] = o
	return api.Told{}
}

func (m *model) doLines(thread int, c api.Call) api.Told {
	o := m.altered(thread, c.P, api.Device)
	told := api.Told{}
	if c.Op == 27 {
		fail(len(o.Out)+len(c.S) > 4096, api.ErrFull)
		o.Out += c.S
	} else {
		fail(c.A < 0, api.ErrArg)
		n := min(c.A, len(o.Heard))
		told.S, o.Heard = o.Heard[:n], o.Heard[n:]
	}
	m.all[o.Id] = o
	return told
}

func (m *model) doSelf(thread int, c api.Call, draw int) api.Told {
	t := m.all[thread]
	told := api.Told{}
	switch c.Op {
	case 1:
		fail(draw < 1 || draw > api.MaxId, api.ErrArg)
		fail(m.drawn[draw], api.ErrId)
		l, clearance, e := passage.Own(t.Label, t.Clear, draw)
		failBy(e)
		m.drawn[draw] = true
		t.Label, t.Clear, told.N = l, clearance, draw
	case 2:
		fail(!label.Right(c.L), api.ErrArg)
		failBy(passage.Rise(t.Label, t.Clear, c.L))
		t.Label = c.L
	case 3:
		fail(!label.Right(c.M), api.ErrArg)
		failBy(passage.Clear(t.Label, t.Clear, c.M))
		t.Clear = c.M
	case 24:
		o := m.altered(thread, c.P, api.Thread)
		fail(c.A < 0 || c.A > 255, api.ErrArg)
		fail(len(o.Alerts) == 8, api.ErrFull)
		o.Alerts = slices.Concat(o.Alerts, []int{c.A})
		m.all[o.Id] = o
		m.wake(func(x api.Object) bool { return x.Id == o.Id })
		return told
	case 25:
		fail(len(t.Alerts) == 0, api.ErrAgain)
		told.N, t.Alerts = t.Alerts[0], t.Alerts[1:]
	case 26:
		t.Does = api.Stops
	case 29:
		told.N = m.ticks
	case 30:
		g := m.ofKind(thread, c.P, api.Gate)
		fail(!label.Right(c.L) || !label.Right(c.M), api.ErrArg)
		failBy(passage.Enter(t.Label, t.Clear, g.Label, g.Clear, c.L, c.M))
		t.Label, t.Clear, t.Space, t.State.Pc, t.State.R[1] = c.L, c.M, g.Space, g.Entry, uint64(c.C)
	case 31:
		told = api.Told{N: thread, L: t.Label, M: t.Clear}
	case 32:
		fail(c.B < 0, api.ErrArg)
		t.Space, t.State.Pc = c.Q, uint64(c.B)
	}
	m.all[thread] = t
	return told
}

// places answers where the bytes of a thread's memory stand, byte by byte: the segment and the place in it.
func (m *model) places(thread int, addr uint64, n, need int, may func(thread, id int) bool) (list [][2]int) {
	fault := func(so bool) { fail(so, api.ErrFault) }
	m.runs(thread)
	defer func() {
		if recover() != nil {
			panic(api.ErrFault)
		}
	}()
	row := m.seen(thread, m.all[thread].Space, api.Space).Maps
	fault(n < 1 || n > 4096 || need < 0 || need > 2)
	for i := range uint64(n) {
		fault(addr+i < addr)
		page := int((addr + i) / 64)
		x := slices.IndexFunc(row, func(x api.Map) bool { return x.At <= page && page < x.At+x.Pages })
		fault(x < 0 || need == 1 && !row[x].Write || need == 2 && !row[x].Run)
		off := (page-row[x].At+row[x].From)*64 + int((addr+i)%64)
		o := m.ofKind(thread, api.Ref{In: row[x].In, Id: row[x].Id}, api.Segment)
		fault(!may(thread, o.Id) || off >= len(o.Bytes))
		list = append(list, [2]int{o.Id, off})
	}
	return list
}

func (m *model) load(thread int, addr uint64, n, need int) (string, api.Errno) {
	told, e := m.whole(func() api.Told {
		s := ""
		for _, p := range m.places(thread, addr, n, need, m.sees) {
			s += m.all[p[0]].Bytes[p[1] : p[1]+1]
		}
		return api.Told{S: s}
	})
	return told.S, e
}

func (m *model) store(thread int, addr uint64, s string) api.Errno {
	_, e := m.whole(func() api.Told {
		m.runs(thread)
		if s == "" {
			return api.Told{}
		}
		for i, p := range m.places(thread, addr, len(s), 1, m.alters) {
			o := m.all[p[0]]
			o.Bytes = o.Bytes[:p[1]] + s[i:i+1] + o.Bytes[p[1]+1:]
			m.all[o.Id] = o
		}
		return api.Told{}
	})
	return e
}

// outside does what comes from outside to an object of a kind.
func (m *model) outside(id, kind int, change func(o *api.Object)) api.Errno {
	_, e := m.whole(func() api.Told {
		o, ok := m.all[id]
		fail(!ok, api.ErrNone)
		fail(o.Kind != kind, api.ErrKind)
		change(&o)
		m.all[id] = o
		return api.Told{}
	})
	return e
}

func (m *model) put(id int, s string) api.Errno {
	return m.outside(id, api.Device, func(o *api.Object) {
		fail(len(o.Heard)+len(s) > 4096, api.ErrFull)
		o.Heard += s
	})
}

func (m *model) fill(id int, s string) api.Errno {
	return m.outside(id, api.Segment, func(o *api.Object) {
		fail(len(s) > o.Quota || len(s) > 4096, api.ErrQuota)
		o.Bytes = s
	})
}

func (m *model) setState(id int, s api.State) api.Errno {
	return m.outside(id, api.Thread, func(o *api.Object) { o.State = s })
}
