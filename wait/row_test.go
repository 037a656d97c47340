package wait_test

import (
	"fmt"
	"slices"
	"testing"

	"gatehouse/api"
	"gatehouse/wait"
)

// stay is a thread that waits, in the model.
type stay struct {
	thread, seg, off int
}

// alert is one that was left for a thread, in the model.
type alert struct {
	thread, code int
}

// model is all that wait, in the order in which they came, and all alerts, in the order in which they were left: one row of each.
type model struct {
	stays  []stay
	alerts []alert
}

func isNumber(n int) bool { return n >= 1 && n <= api.MaxId }

func (m *model) codes(thread int) []int {
	var list []int
	for _, a := range m.alerts {
		if a.thread == thread {
			list = append(list, a.code)
		}
	}
	return list
}

// who answers the threads of those that are meant.
func (m *model) who(meant func(stay) bool) []int {
	var list []int
	for _, s := range m.stays {
		if meant(s) {
			list = append(list, s.thread)
		}
	}
	return list
}

// answer lets those that are meant wait no more.
func (m *model) answer(meant func(stay) bool) []int {
	list := m.who(meant)
	m.stays = slices.DeleteFunc(slices.Clone(m.stays), meant)
	return list
}

func (m *model) wait(thread, seg, off int) api.Errno {
	switch {
	case !isNumber(thread) || !isNumber(seg) || off < 0 || off > lastOff:
		return api.ErrArg
	case len(m.who(func(s stay) bool { return s.thread == thread })) > 0:
		return api.ErrId
	case len(m.codes(thread)) > 0:
		return api.ErrAgain
	}
	m.stays = append(m.stays, stay{thread, seg, off})
	return api.OK
}

func (m *model) wake(seg, off int) []int {
	return m.answer(func(s stay) bool { return s.seg == seg && s.off == off })
}

func (m *model) close(seg int) []int {
	return m.answer(func(s stay) bool { return s.seg == seg })
}

func (m *model) post(thread, code int) (bool, api.Errno) {
	switch {
	case !isNumber(thread) || code < 0 || code > 255:
		return false, api.ErrArg
	case len(m.codes(thread)) == 8:
		return false, api.ErrFull
	}
	m.alerts = append(m.alerts, alert{thread, code})
	return len(m.answer(func(s stay) bool { return s.thread == thread })) > 0, api.OK
}

func (m *model) take(thread int) (int, bool) {
	i := slices.IndexFunc(m.alerts, func(a alert) bool { return a.thread == thread })
	if i < 0 {
		return 0, false
	}
	code := m.alerts[i].code
	m.alerts = slices.Delete(slices.Clone(m.alerts), i, i+1)
	return code, true
}

func (m *model) forget(thread int) bool {
	m.alerts = slices.DeleteFunc(slices.Clone(m.alerts), func(a alert) bool { return a.thread == thread })
	return len(m.answer(func(s stay) bool { return s.thread == thread })) > 0
}

func (m *model) copied() model {
	return model{slices.Clone(m.stays), slices.Clone(m.alerts)}
}

// state writes the model out as state does rooms.
func (m *model) state() string {
	s := fmt.Sprint(len(m.stays))
	for _, id := range few() {
		var its stay
		i := slices.IndexFunc(m.stays, func(s stay) bool { return s.thread == id })
		if i >= 0 {
			its = m.stays[i]
		}
		if codes := m.codes(id); i >= 0 || len(codes) > 0 {
			s += fmt.Sprint("\nthread ", id, " ", its.seg, its.off, i >= 0, codes)
		}
		for _, off := range fewOffs() {
			if list := m.who(func(s stay) bool { return s.seg == id && s.off == off }); len(list) > 0 {
				s += fmt.Sprint("\nplace ", id, off, list)
			}
		}
		if list := m.who(func(s stay) bool { return s.seg == id }); len(list) > 0 {
			s += fmt.Sprint("\nsegment ", id, list)
		}
	}
	return s
}

// ledger counts for each thread how often it began to wait less how often it was answered.
type ledger map[int]int

func (l ledger) answered(threads ...int) {
	for _, thread := range threads {
		l[thread]--
	}
}

// balanced tells whether just those wait that weren't answered yet, and nobody was answered twice.
func (l ledger) balanced(r *wait.Rooms) string {
	sum := 0
	for _, thread := range few() {
		n := 0
		if _, _, ok := r.Where(thread); ok {
			n = 1
		}
		if l[thread] != n {
			return fmt.Sprintf("thread %d: %d times not yet answered, but %d times waiting", thread, l[thread], n)
		}
		sum += n
	}
	if r.Len() != sum {
		return fmt.Sprintf("Len is %d, not %d", r.Len(), sum)
	}
	return ""
}

// trio is rooms, what they ought to be, and who wasn't answered yet.
type trio struct {
	r *wait.Rooms
	m model
	l ledger
}

func (p *trio) copied() *trio {
	l := ledger{}
	for thread, n := range p.l {
		l[thread] = n
	}
	return &trio{p.r.Copy(), p.m.copied(), l}
}

// thread answers a thread's number: seldom one that can't be.
func (d *dice) thread() int {
	if d.roll(30) == 0 {
		return pick(d, few()...)
	}
	return 1 + d.roll(12)
}

// place answers a segment and an offset, mostly one of six places.
func (d *dice) place() (seg, off int) {
	seg, off = 1+d.roll(3), 8*d.roll(2)
	if d.roll(30) == 0 {
		seg = pick(d, few()...)
	}
	if d.roll(30) == 0 {
		off = pick(d, fewOffs()...)
	}
	return seg, off
}

func (d *dice) code() int {
	if d.roll(20) == 0 {
		return pick(d, append(wrongCodes(), 0, 255)...)
	}
	return d.roll(256)
}

// step does one call of the rooms and of their model: what was called, and whether the answers differ.
func (p *trio) step(d *dice) (string, bool) {
	thread := d.thread()
	seg, off := d.place()
	switch d.roll(20) {
	default:
		got, want := p.r.Wait(thread, seg, off), p.m.wait(thread, seg, off)
		if got == api.OK {
			p.l[thread]++
		}
		return fmt.Sprint("Wait ", thread, seg, off, ": ", got, want), got != want
	case 0, 1, 2:
		got, want := p.r.Wake(seg, off), p.m.wake(seg, off)
		p.l.answered(got...)
		return fmt.Sprint("Wake ", seg, off, ": ", got, want), !slices.Equal(got, want)
	case 3, 4, 5, 6:
		code := d.code()
		got, e := p.r.Post(thread, code)
		want, f := p.m.post(thread, code)
		if got {
			p.l.answered(thread)
		}
		return fmt.Sprint("Post ", thread, code, ": ", got, e, want, f), got != want || e != f
	case 7, 8, 9, 10:
		got, ok := p.r.Take(thread)
		want, is := p.m.take(thread)
		return fmt.Sprint("Take ", thread, ": ", got, ok, want, is), got != want || ok != is
	case 11:
		got, want := p.r.Close(seg), p.m.close(seg)
		p.l.answered(got...)
		return fmt.Sprint("Close ", seg, ": ", got, want), !slices.Equal(got, want)
	case 12:
		got, want := p.r.Forget(thread), p.m.forget(thread)
		if got {
			p.l.answered(thread)
		}
		return fmt.Sprint("Forget ", thread, ": ", got, want), got != want
	}
}

// TestRowsOfCalls: whatever row of calls, with copies among them, all rooms are what their models are, and nobody is lost.
func TestRowsOfCalls(t *testing.T) {
	d := dice(8)
	for range 40 {
		all := []*trio{{wait.New(), model{}, ledger{}}}
		for step := range 250 {
			p := all[d.roll(len(all))]
			if d.roll(20) == 0 {
				if len(all) < 3 {
					all = append(all, p.copied())
				} else {
					all[d.roll(3)] = p.copied()
				}
			} else if what, wrong := p.step(&d); wrong {
				t.Fatalf("step %d: %s", step, what)
			}
			for i, p := range all {
				if got, want := state(p.r), p.m.state(); got != want {
					t.Fatalf("step %d: rooms %d are\n%s\nnot\n%s", step, i, got, want)
				}
				if wrong := p.l.balanced(p.r); wrong != "" {
					t.Fatalf("step %d: rooms %d: %s", step, i, wrong)
				}
			}
		}
	}
}

// TestFullOfAlerts: rows of calls to two threads, that have many alerts more often than in the rows above.
func TestFullOfAlerts(t *testing.T) {
	d := dice(2)
	p := &trio{wait.New(), model{}, ledger{}}
	full := 0
	for range 3000 {
		thread := 1 + d.roll(2)
		if d.roll(5) < 3 {
			code := d.code()
			got, e := p.r.Post(thread, code)
			want, f := p.m.post(thread, code)
			if got != want || e != f {
				t.Fatal("Post", thread, code, got, e, want, f)
			}
			if e == api.ErrFull {
				full++
			}
		} else {
			got, ok := p.r.Take(thread)
			want, is := p.m.take(thread)
			if got != want || ok != is {
				t.Fatal("Take", thread, got, ok, want, is)
			}
		}
		these(t, "Alerts", p.r.Alerts(thread), p.m.codes(thread)...)
	}
	if full < 100 {
		t.Error("seldom full:", full)
	}
}
