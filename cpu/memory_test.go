package cpu_test

import (
	"slices"
	"testing"

	"gatehouse/api"
	"gatehouse/cpu"
)

// TestAsked: which calls a step makes of its memory, and no others.
func TestAsked(t *testing.T) {
	fetch := asked{addr: 1000, n: 4, need: api.ToRun}
	for _, x := range []struct {
		text string
		want []asked
	}{
		{"nop", nil},
		{"halt", nil},
		{"sys", nil},
		{"add r1 r2 r3", nil},
		{"call r1 r2", nil},
		{"load r1 r2 3", []asked{{addr: 13, n: 1, need: api.ToRead}}},
		{"pull r1 r2 3", []asked{{addr: 13, n: 8, need: api.ToRead}}},
		{"keep r1 r2 3", []asked{{addr: 13, n: 1, need: api.ToWrite, s: "\x08"}}},
		{"push r1 r2 3", []asked{{addr: 13, n: 8, need: api.ToWrite, s: "\x08\x07\x06\x05\x04\x03\x02\x01"}}},
	} {
		l := bench(built(t, x.text))
		st := regs(1000, 0, 0x0102030405060708, 10)
		cpu.Step(&st, l)
		if want := append([]asked{fetch}, x.want...); !slices.Equal(l.got, want) {
			t.Errorf("%s: asked %v, not %v", x.text, l.got, want)
		}
	}
}

// TestReach: what load, keep, pull and push do with bytes that are there, and with such as aren't.
func TestReach(t *testing.T) {
	for _, x := range []struct {
		text string
		r2   uint64
		what int
		r1   uint64
		row  string // the first ten bytes then, if they have changed
	}{
		{"load r1 r2 0", 0, api.Ran, 0xa0, ""},
		{"load r1 r2 5", 2, api.Ran, 0xa7, ""},
		{"load r1 r2 63", 0, api.Ran, 0xdf, ""},
		{"load r1 r2 64", 0, api.Faulted, 0, ""},
		{"load r1 r2 1", last, api.Ran, 0xa0, ""}, // the sum is modulo 2^64
		{"load r1 r2 255", last - 253, api.Ran, 0xa1, ""},
		{"load r1 r2 0", last, api.Faulted, 0, ""},
		{"load r1 r2 0", 1000, api.Ran, 18, ""}, // what may be run may be read, too
		{"pull r1 r2 0", 0, api.Ran, 0xa7a6a5a4a3a2a1a0, ""},
		{"pull r1 r2 56", 0, api.Ran, 0xdfdedddcdbdad9d8, ""},
		{"pull r1 r2 57", 0, api.Faulted, 0, ""},
		{"pull r1 r2 2", last - 1, api.Ran, 0xa7a6a5a4a3a2a1a0, ""},
		{"pull r1 r2 0", last - 3, api.Faulted, 0, ""},
		{"pull r1 r2 0", last - 7, api.Faulted, 0, ""},
		{"keep r1 r2 0", 0, api.Ran, 0, "\x08\xa1\xa2\xa3\xa4\xa5\xa6\xa7\xa8\xa9"},
		{"keep r1 r2 7", 2, api.Ran, 0, "\xa0\xa1\xa2\xa3\xa4\xa5\xa6\xa7\xa8\x08"},
		{"keep r1 r2 3", last, api.Ran, 0, "\xa0\xa1\x08\xa3\xa4\xa5\xa6\xa7\xa8\xa9"},
		{"keep r1 r2 0", 64, api.Faulted, 0, ""},
		{"keep r1 r2 0", 1000, api.Faulted, 0, ""}, // it may be run, but not written
		{"push r1 r2 0", 1, api.Ran, 0, "\xa0\x08\x07\x06\x05\x04\x03\x02\x01\xa9"},
		{"push r1 r2 1", last, api.Ran, 0, "\x08\x07\x06\x05\x04\x03\x02\x01\xa8\xa9"},
		{"push r1 r2 57", 0, api.Faulted, 0, ""},
		{"push r1 r2 0", last - 3, api.Faulted, 0, ""},
		{"push r1 r2 0", 1000, api.Faulted, 0, ""},
	} {
		l := bench(built(t, x.text))
		st := regs(1000, 0, 0x0102030405060708, x.r2)
		want := st
		if x.what == api.Ran {
			want.Pc = 1004
		}
		if x.r1 != 0 {
			want.R[1] = x.r1
		}
		meant := l.copied()
		copy(meant.parts[0].row, x.row)
		if what := cpu.Step(&st, l); what != x.what || st != want || l.changed(meant) != 0 {
			t.Errorf("%s from %d: %v %q, answered %d", x.text, x.r2, st, l.parts[0].row[:10], what)
		}
	}
}

// TestOneRegister: the address may be in the register that is loaded or kept.
func TestOneRegister(t *testing.T) {
	st := regs(1000, 0, 2)
	if what := cpu.Step(&st, bench(built(t, "load r1 r1 1"))); what != api.Ran || st.R[1] != 0xa3 {
		t.Error(st, what)
	}
	st = regs(1000, 0, 2)
	l := bench(built(t, "push r1 r1 0"))
	if what := cpu.Step(&st, l); what != api.Ran || st.R[1] != 2 || string(l.parts[0].row[:11]) != "\xa0\xa1\x02\x00\x00\x00\x00\x00\x00\x00\xaa" {
		t.Error(st, what, l.parts[0].row)
	}
}

// TestAnyError: whatever error a memory answers, it is a fault.
func TestAnyError(t *testing.T) {
	for _, e := range []api.Errno{api.ErrArg, api.ErrLabel, api.ErrNone, api.ErrFault, api.ErrCode, api.ErrLine, 1000, -1, least, highest} {
		for _, text := range []string{"load r1 r2 0", "keep r1 r2 0", "pull r1 r2 0", "push r1 r2 0"} {
			for _, pc := range []uint64{1000, 5000} {
				l := bench(built(t, text))
				l.err = e
				st := regs(pc, 0, 1, 5000)
				if what := cpu.Step(&st, l); what != api.Faulted || st != regs(pc, 0, 1, 5000) {
					t.Errorf("%s, error %d: %v, answered %d", text, e, st, what)
				}
			}
		}
	}
}

// short is a memory whose answers are of another length than was asked for, but that of an instruction.
type short struct {
	code, data string
}

func (s short) Load(addr uint64, n, need int) (string, api.Errno) {
	if need == api.ToRun {
		return s.code, api.OK
	}
	return s.data, api.OK
}

func (s short) Store(addr uint64, text string) api.Errno { return api.OK }

// TestShort: bytes that a memory doesn't answer can't be read; nothing panics.
func TestShort(t *testing.T) {
	for _, m := range []short{
		{built(t, "load r1 r2 0"), ""}, {built(t, "load r1 r2 0"), "ab"},
		{built(t, "pull r1 r2 0"), ""}, {built(t, "pull r1 r2 0"), "abcdefg"}, {built(t, "pull r1 r2 0"), "abcdefghi"},
		{"", ""}, {"\x00", ""}, {"\x00\x00\x00", ""}, {"\x00\x00\x00\x00\x00", ""},
	} {
		st := regs(7, 1, 2, 3)
		if what := cpu.Step(&st, m); what != api.Faulted || st != regs(7, 1, 2, 3) {
			t.Errorf("%q: %v, answered %d", m, st, what)
		}
	}
}

// TestRound: where addresses end, instructions go on from 0.
func TestRound(t *testing.T) {
	first, second := built(t, "set r1 5\nadd r2 r1 r1\nsys"), built(t, "nop\nset r3 7")
	l := &land{err: api.ErrFault, parts: []part{{from: 0, row: []byte(first), run: true}, {from: last - 7, row: []byte(second), run: true}}}
	st := api.State{Pc: last - 7}
	for i, want := range []int{api.Ran, api.Ran, api.Ran, api.Ran, api.Called} {
		if what := cpu.Step(&st, l); what != want {
			t.Errorf("step %d: answered %d", i, what)
		}
	}
	if st != regs(12, 0, 5, 10, 7) {
		t.Error(st)
	}
	l = &land{err: api.ErrFault, parts: []part{{from: last - 3, row: []byte(built(t, "call r1 r2")), run: true}}}
	st = regs(last-3, 0, 0, 9)
	if what := cpu.Step(&st, l); what != api.Ran || st != regs(9, 0, 0, 9) {
		t.Error(st, what)
	}
	// Bytes that would go on from 0 aren't one row.
	l = &land{err: api.ErrFault, parts: []part{{from: 0, row: make([]byte, 8), run: true}, {from: last - 1, row: make([]byte, 2), run: true}}}
	st = regs(last - 1)
	if what := cpu.Step(&st, l); what != api.Faulted || st != regs(last-1) {
		t.Error(st, what)
	}
}
