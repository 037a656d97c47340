package hold_test

import (
	"fmt"
	"slices"
	"testing"

	"gatehouse/api"
	"gatehouse/hold"
	"gatehouse/label"
)

// thing is an object of the model. How much is used and how many link to it isn't kept, but counted.
type thing struct {
	id, kind, quota int
	l               api.Label
	entries         []int
}

// model is all objects, the root first.
type model []thing

func (m model) find(id int) *thing {
	for i := range m {
		if m[i].id == id {
			return &m[i]
		}
	}
	return nil
}

func (m model) used(x *thing) int {
	sum := 0
	for _, id := range x.entries {
		sum += m.find(id).quota
	}
	return sum
}

func (m model) links(id int) int {
	n := 0
	if m[0].id == id {
		n++
	}
	for _, x := range m {
		if slices.Contains(x.entries, id) {
			n++
		}
	}
	return n
}

func (m *model) make(in, id, kind, quota int, l api.Label) api.Errno {
	box := m.find(in)
	switch {
	case box == nil:
		return api.ErrNone
	case box.kind != api.Container || kind < 1 || kind > 6:
		return api.ErrKind
	case quota < 1 || quota > most || !label.Plain(l) || kind != api.Thread && kind != api.Gate && !label.Free(l):
		return api.ErrArg
	case id < 1 || id > api.MaxId || m.find(id) != nil:
		return api.ErrId
	case len(*m) == api.MaxObjects:
		return api.ErrFull
	case m.used(box)+quota > box.quota:
		return api.ErrQuota
	}
	box.entries = append(box.entries, id)
	*m = append(*m, thing{id: id, kind: kind, quota: quota, l: l})
	return api.OK
}

func (m *model) link(in, id int) api.Errno {
	box, x := m.find(in), m.find(id)
	switch {
	case box == nil || x == nil:
		return api.ErrNone
	case box.kind != api.Container || x.kind != api.Segment && x.kind != api.Gate:
		return api.ErrKind
	case slices.Contains(box.entries, id):
		return api.ErrArg
	case m.used(box)+x.quota > box.quota:
		return api.ErrQuota
	}
	box.entries = append(box.entries, id)
	return api.OK
}

func (m *model) drop(in, id int) ([]int, api.Errno) {
	box := m.find(in)
	switch {
	case box == nil:
		return nil, api.ErrNone
	case box.kind != api.Container:
		return nil, api.ErrKind
	case !slices.Contains(box.entries, id):
		return nil, api.ErrNone
	}
	i := slices.Index(box.entries, id)
	box.entries = slices.Delete(slices.Clone(box.entries), i, i+1)
	if m.links(id) > 0 {
		return nil, api.OK
	}
	gone := []int{id}
	for _, inner := range m.find(id).entries {
		more, _ := m.drop(id, inner)
		gone = append(gone, more...)
	}
	*m = slices.DeleteFunc(*m, func(x thing) bool { return x.id == id })
	return gone, api.OK
}

func (m *model) shift(in, id, n int) api.Errno {
	box, x := m.find(in), m.find(id)
	switch {
	case box == nil:
		return api.ErrNone
	case box.kind != api.Container:
		return api.ErrKind
	case !slices.Contains(box.entries, id):
		return api.ErrNone
	case x.kind != api.Container:
		return api.ErrKind
	case n < -most || n > most:
		return api.ErrArg
	case m.used(box)+n > box.quota || x.quota+n < m.used(x) || x.quota+n < 1 || x.quota+n > most:
		return api.ErrQuota
	}
	x.quota += n
	return api.OK
}

func (m *model) relabel(id int, l api.Label) api.Errno {
	x := m.find(id)
	switch {
	case x == nil:
		return api.ErrNone
	case x.kind != api.Thread:
		return api.ErrKind
	case !label.Plain(l):
		return api.ErrArg
	}
	x.l = l
	return api.OK
}

// state writes the model out as state does a table.
func (m model) state() string {
	s := fmt.Sprint(len(m))
	sorted := slices.SortedFunc(slices.Values(m), func(a, b thing) int { return a.id - b.id })
	for _, x := range sorted {
		e, used := api.ErrKind, 0
		if x.kind == api.Container {
			e, used = api.OK, m.used(&x)
		}
		s += fmt.Sprint("\n", api.Info{Id: x.id, Kind: x.kind, Quota: x.quota, Used: used, Links: m.links(x.id), Label: x.l}, true, x.entries, e)
	}
	return s
}

// copied is a model that doesn't change with the first.
func (m model) copied() model {
	other := slices.Clone(m)
	for i := range other {
		other[i].entries = slices.Clone(other[i].entries)
	}
	return other
}

// pair is a table, and what it ought to be.
type pair struct {
	x *hold.Table
	m model
}

// number answers a number about those of the objects: seldom one that can't be.
func (d *dice) number() int {
	if d.roll(25) == 0 {
		return pick(d, least, -1, 0, api.MaxId, api.MaxId+1, highest)
	}
	return 1 + d.roll(24)
}

// amount answers a quota, mostly small.
func (d *dice) amount() int {
	if d.roll(25) == 0 {
		return pick(d, least, -1, 0, most-1, most, most+1, highest)
	}
	return 1 + d.roll(pick(d, 3, 10, 40, 200, 1000))
}

// box answers a container's number, mostly.
func (p *pair) box(d *dice) int {
	x := p.m[d.roll(len(p.m))]
	if x.kind != api.Container && d.roll(8) > 0 {
		return p.box(d)
	}
	return x.id
}

// entry answers a number that is mostly an entry of the container.
func (p *pair) entry(d *dice, in int) int {
	if x := p.m.find(in); len(x.entries) > 0 && d.roll(6) > 0 {
		return pick(d, x.entries...)
	}
	return d.number()
}

func (d *dice) label() api.Label {
	switch d.roll(8) {
	case 0:
		return pick(d, wrongLabels()...)
	case 1, 2:
		return pick(d, owningLabels()...)
	}
	return pick(d, freeLabels()...)
}

// step does one call of a table and of its model.
func (p *pair) step(d *dice) string {
	in := p.box(d)
	if d.roll(12) == 0 {
		in = d.number()
	}
	x := p.m.find(in)
	id := d.number()
	var what string
	var got, want api.Errno
	var gone, lost []int
	switch d.roll(14) {
	case 0, 1, 2, 3, 4, 5:
		kind, quota, l := pick(d, 1, 1, 1, 2, 2, 2, 3, 4, 4, 5, 5, 6, 0, 7), d.amount(), d.label()
		what = fmt.Sprint("Make ", in, id, kind, quota, l)
		got, want = p.x.Make(in, id, kind, quota, l), p.m.make(in, id, kind, quota, l)
	case 6, 7, 8:
		what = fmt.Sprint("Link ", in, id)
		got, want = p.x.Link(in, id), p.m.link(in, id)
	case 9, 10:
		if x != nil {
			id = p.entry(d, in)
		}
		what = fmt.Sprint("Drop ", in, id)
		gone, got = p.x.Drop(in, id)
		lost, want = p.m.drop(in, id)
	case 11, 12:
		if x != nil {
			id = p.entry(d, in)
		}
		n := d.amount() * pick(d, 1, -1)
		what = fmt.Sprint("Shift ", in, id, n)
		got, want = p.x.Shift(in, id, n), p.m.shift(in, id, n)
	case 13:
		l := d.label()
		what = fmt.Sprint("Relabel ", id, l)
		got, want = p.x.Relabel(id, l), p.m.relabel(id, l)
	}
	if got != want || !slices.Equal(gone, lost) {
		return fmt.Sprint(what, ": ", gone, " ", got, ", not ", lost, " ", want)
	}
	return ""
}

// TestRowsOfCalls: whatever row of calls, with copies among them, each table is what its model is, and its sums hold.
func TestRowsOfCalls(t *testing.T) {
	d := dice(5)
	for range 40 {
		root := 1 + d.roll(24)
		all := []*pair{{hold.New(root, one), model{{id: root, kind: api.Container, quota: most, l: one}}}}
		for step := range 250 {
			p := all[d.roll(len(all))]
			if d.roll(20) == 0 {
				fresh := &pair{p.x.Copy(), p.m.copied()}
				if len(all) < 4 {
					all = append(all, fresh)
				} else {
					all[d.roll(4)] = fresh
				}
			} else if wrong := p.step(&d); wrong != "" {
				t.Fatalf("step %d: %s", step, wrong)
			}
			for i, p := range all {
				if got, want := state(p.x), p.m.state(); got != want {
					t.Fatalf("step %d: table %d is\n%s\nnot\n%s", step, i, got, want)
				}
			}
			right(t, p.x, root)
			if t.Failed() {
				t.Fatalf("step %d", step)
			}
		}
	}
}
