package cpu_test

import (
	"slices"
	"strings"
	"testing"

	"gatehouse/api"
	"gatehouse/cpu"
	"gatehouse/pages"
)

// ran fails unless that comes of steps over bytes.
func ran(t *testing.T, b *pages.Bytes, st api.State, n int, want api.State, count, end int) {
	t.Helper()
	if got, k, what := cpu.Over(b, st, n); got != want || k != count || what != end {
		t.Errorf("%d steps from %v: %v, %d, %d, not %v, %d, %d", n, st, got, k, what, want, count, end)
	}
}

func TestOver(t *testing.T) {
	s := built(t, "set r1 5\nset r2 7\nmul r3 r1 r2\nhalt")
	b := filled(t, len(s), s)
	ran(t, b, regs(0), 10, regs(12, 0, 5, 7, 35), 3, api.Halted)
	ran(t, b, regs(0), 4, regs(12, 0, 5, 7, 35), 3, api.Halted)
	ran(t, b, regs(0), 3, regs(12, 0, 5, 7, 35), 3, api.Ran)
	ran(t, b, regs(0), 2, regs(8, 0, 5, 7), 2, api.Ran)
	ran(t, b, regs(0), 1, regs(4, 0, 5), 1, api.Ran)
	ran(t, b, regs(4, 9), highest, regs(12, 9, 0, 7), 2, api.Halted)
	ran(t, b, regs(12, 1, 2), 5, regs(12, 1, 2), 0, api.Halted)
	for _, n := range []int{0, -1, -2, least, least + 1} {
		ran(t, b, regs(0, 1, 2), n, regs(0, 1, 2), 0, api.Ran)
		ran(t, b, regs(last, 1, 2), n, regs(last, 1, 2), 0, api.Ran)
		ran(t, nil, regs(0, 1, 2), n, regs(0, 1, 2), 0, api.Ran)
	}
	if all(t, b) != s {
		t.Errorf("bytes have changed: %q", all(t, b))
	}
}

func TestOverEnds(t *testing.T) {
	for _, x := range []struct {
		n     int
		text  string
		st    api.State
		want  api.State
		count int
		end   int
	}{
		{8, "nop\nsys", regs(0), regs(8), 1, api.Called},
		{4, "sys", regs(0), regs(4), 0, api.Called},
		{4, "nop", regs(0), regs(4), 1, api.Faulted}, // behind the last byte
		{7, "nop", regs(0), regs(4), 1, api.Faulted},
		{8, "nop", regs(0), regs(4), 1, api.Halted},
		{8, "nop", regs(1), regs(1), 0, api.Halted}, // an instruction may begin anywhere
		{8, "nop", regs(5), regs(5), 0, api.Faulted},
		{8, "nop", regs(8), regs(8), 0, api.Faulted},
		{8, "nop", regs(9), regs(9), 0, api.Faulted},
		{8, "nop", regs(1 << 32), regs(1 << 32), 0, api.Faulted},
		{8, "nop", regs(1 << 63), regs(1 << 63), 0, api.Faulted},
		{8, "nop", regs(last - 3), regs(last - 3), 0, api.Faulted},
		{8, "nop", regs(last), regs(last), 0, api.Faulted},
		{0, "", regs(0), regs(0), 0, api.Faulted},
		{4, "go -2", regs(0), regs(last - 3), 1, api.Faulted},
		{8, "back", api.State{R: [16]uint64{15: 2}}, api.State{Pc: 2, R: [16]uint64{15: 2}}, 1, api.Halted},
		{4096, "nop", regs(4092), regs(4092), 0, api.Halted},
		{4096, "nop", regs(4093), regs(4093), 0, api.Faulted},
		{256, "pull r1 r2 0", regs(0, 0, 0, 248), regs(4, 0, 0, 248), 1, api.Halted},
		{256, "pull r1 r2 1", regs(0, 0, 6, 248), regs(0, 0, 6, 248), 0, api.Faulted},
		{256, "pull r1 r2 0", regs(0, 0, 6, last-3), regs(0, 0, 6, last-3), 0, api.Faulted},
		{256, "pull r1 r2 0", regs(0, 0, 6, 1<<63), regs(0, 0, 6, 1<<63), 0, api.Faulted},
		{256, "pull r1 r2 0", regs(0, 0, 6, 1<<32), regs(0, 0, 6, 1<<32), 0, api.Faulted},
		{256, "load r1 r2 255", regs(0, 0, 6, 0), regs(4, 0, 0, 0), 1, api.Halted},
		{256, "load r1 r2 255", regs(0, 0, 6, 1), regs(0, 0, 6, 1), 0, api.Faulted},
		{256, "load r1 r2 1", regs(0, 0, 6, last), regs(4, 0, 18, last), 1, api.Halted}, // the sum is modulo 2^64: its own first byte
	} {
		s := built(t, x.text)
		b := filled(t, x.n, s)
		ran(t, b, x.st, 5, x.want, x.count, x.end)
	}
}

// TestOverWrites: the bytes are written to, those alone, and not in a copy.
func TestOverWrites(t *testing.T) {
	for _, x := range []struct {
		text string
		st   api.State
		at   int
		s    string
		end  int
	}{
		{"push r1 r2 8", regs(0, 0, 0x0102030405060708, 56), 64, "\x08\x07\x06\x05\x04\x03\x02\x01", api.Ran},
		{"push r1 r2 4", regs(0, 0, 0x0102030405060708, 56), 60, "\x08\x07\x06\x05\x04\x03\x02\x01", api.Ran},
		{"push r1 r2 0", regs(0, 0, last, 120), 120, strings.Repeat("\xff", 8), api.Ran},
		{"push r1 r2 1", regs(0, 0, last, 120), 0, "", api.Faulted},
		{"push r1 r2 0", regs(0, 0, last, last-3), 0, "", api.Faulted},
		{"push r1 r2 0", regs(0, 0, last, 1<<63), 0, "", api.Faulted},
		{"keep r1 r2 0", regs(0, 0, 0x1ff, 127), 127, "\xff", api.Ran},
		{"keep r1 r2 0", regs(0, 0, 0x1ff, 128), 0, "", api.Faulted},
		{"keep r1 r2 1", regs(0, 0, 7, last), 0, "\x07", api.Ran},
	} {
		s := built(t, x.text)
		b := filled(t, 128, s)
		c := b.Copy()
		want := []byte(all(t, b))
		copy(want[x.at:], x.s)
		if _, _, what := cpu.Over(b, x.st, 1); what != x.end || all(t, b) != string(want) {
			t.Errorf("%s of %v: answered %d, %q", x.text, x.st, what, all(t, b))
		}
		if got := all(t, c); got != s+strings.Repeat("\x00", 128-len(s)) {
			t.Errorf("%s of %v: the copy has changed: %q", x.text, x.st, got)
		}
	}
}

// TestOverNothing: nil is as no bytes.
func TestOverNothing(t *testing.T) {
	ran(t, nil, regs(0, 1, 2), 5, regs(0, 1, 2), 0, api.Faulted)
	ran(t, nil, regs(last, 1, 2), 1, regs(last, 1, 2), 0, api.Faulted)
}

// TestOverItself: a program may write its own bytes, and runs what stands there when it comes there.
func TestOverItself(t *testing.T) {
	s := built(t, "set r1 26\nkeep r1 r0 12\nset r15 20\nnop\nhalt\nset r2 3\nsys")
	b := filled(t, len(s), s)
	want := api.State{Pc: 28, R: [16]uint64{1: 26, 2: 3, 15: 20}}
	ran(t, b, regs(0), 100, want, 5, api.Called)
	if all(t, b) != s[:12]+"\x1a"+s[13:] {
		t.Errorf("%q", all(t, b))
	}
}

// TestOverRows: rows of steps over whatever bytes do what the model does; done at once, in two goes, or again over a copy, they come to the same.
func TestOverRows(t *testing.T) {
	d := dice(66)
	long := 0
	for range 30000 {
		row := make([]byte, d.roll(500))
		for i := 0; i+4 <= len(row); i += 4 {
			copy(row[i:], d.code())
		}
		st := api.State{Pc: uint64(d.roll(len(row)/4+1)) * 4}
		for i := range st.R {
			st.R[i] = d.number(0, 0, uint64(len(row)))
		}
		n := d.roll(200)
		b := filled(t, len(row), string(row))
		again, half := b.Copy(), b.Copy()
		got, k, what := cpu.Over(b, st, n)
		want, count, end, l := rowOf(st, row, n)
		if got != want || k != count || what != end || all(t, b) != string(l.parts[0].row) {
			t.Fatalf("%d steps of %q from %v: %v, %d, %d, not %v, %d, %d", n, row, st, got, k, what, want, count, end)
		}
		ran(t, again, st, n, got, k, what)
		first := d.roll(k + 1)
		middle, _, _ := cpu.Over(half, st, first)
		ran(t, half, middle, n-first, got, k-first, what)
		if len(b.Unlike(again)) > 0 || len(b.Unlike(half)) > 0 {
			t.Fatalf("%d steps of %q from %v aren't the same again", n, row, st)
		}
		if k > 20 {
			long++
		}
	}
	if long < 800 {
		t.Errorf("%d rows of more than 20 steps", long)
	}
}

// rowOf does a row of steps by the model.
func rowOf(st api.State, row []byte, n int) (api.State, int, int, *land) {
	l := &land{parts: []part{{row: slices.Clone(row), write: true, run: true}}}
	for k := range n {
		if what := model(&st, l); what != api.Ran {
			return st, k, what, l
		}
	}
	return st, n, api.Ran, l
}
