package cpu_test

import (
	"testing"

	"gatehouse/api"
	"gatehouse/cpu"
)

// bench is where instructions are tried: at 1000, with bytes that may be written at 0.
func bench(code string) *land {
	row := make([]byte, 64)
	for i := range row {
		row[i] = byte(0xa0 + i)
	}
	return &land{err: api.ErrFault, parts: []part{{from: 0, row: row, write: true}, {from: 1000, row: []byte(code), run: true}}}
}

// TestNumbers: what each operation makes of two registers, or of its number.
func TestNumbers(t *testing.T) {
	const half = 1 << 63
	for _, x := range []struct {
		text    string
		a, b, c uint64
		want    uint64
	}{
		{text: "set r1 5", a: last, want: 5},
		{text: "set r1 0", a: last, want: 0},
		{text: "set r1 65535", want: 65535},
		{text: "set r1 32768", want: 32768},
		{text: "more r1 5", a: 1, want: 65541},
		{text: "more r1 65535", a: 65535, want: 1<<32 - 1},
		{text: "more r1 0", a: 1 << 48, want: 0},
		{text: "more r1 7", a: last, want: last - 65535 + 7},
		{text: "move r1 r2", a: 1, b: last, want: last},
		{text: "move r1 r1", a: 7, want: 7},
		{text: "add r1 r2 r3", b: 2, c: 3, want: 5},
		{text: "add r1 r2 r3", b: last, c: 1, want: 0},
		{text: "add r1 r2 r3", b: last, c: last, want: last - 1},
		{text: "add r1 r1 r1", a: half + 1, want: 2},
		{text: "sub r1 r2 r3", b: 5, c: 3, want: 2},
		{text: "sub r1 r2 r3", b: 0, c: 1, want: last},
		{text: "sub r1 r1 r1", a: 9, want: 0},
		{text: "mul r1 r2 r3", b: 5, c: 7, want: 35},
		{text: "mul r1 r2 r3", b: last, c: last, want: 1},
		{text: "mul r1 r2 r3", b: 1 << 32, c: 1 << 32, want: 0},
		{text: "div r1 r2 r3", b: 7, c: 2, want: 3},
		{text: "div r1 r2 r3", b: last, c: 2, want: half - 1},
		{text: "div r1 r2 r3", b: half, c: last, want: 0},
		{text: "div r1 r2 r3", b: 7, c: 0, want: last},
		{text: "div r1 r2 r3", b: 0, c: 0, want: last},
		{text: "mod r1 r2 r3", b: 7, c: 4, want: 3},
		{text: "mod r1 r2 r3", b: last, c: 10, want: 5},
		{text: "mod r1 r2 r3", b: half, c: last, want: half},
		{text: "mod r1 r2 r3", b: 7, c: 0, want: 7},
		{text: "mod r1 r2 r3", b: last, c: 0, want: last},
		{text: "and r1 r2 r3", b: 12, c: 10, want: 8},
		{text: "or r1 r2 r3", b: 12, c: 10, want: 14},
		{text: "xor r1 r2 r3", b: 12, c: 10, want: 6},
		{text: "xor r1 r2 r3", b: last, c: half, want: half - 1},
		{text: "shl r1 r2 r3", b: 3, c: 0, want: 3},
		{text: "shl r1 r2 r3", b: 3, c: 4, want: 48},
		{text: "shl r1 r2 r3", b: 3, c: 63, want: half},
		{text: "shl r1 r2 r3", b: 3, c: 64, want: 0},
		{text: "shl r1 r2 r3", b: 3, c: 1 << 32, want: 0},
		{text: "shl r1 r2 r3", b: 3, c: last, want: 0},
		{text: "shr r1 r2 r3", b: last, c: 0, want: last},
		{text: "shr r1 r2 r3", b: last, c: 4, want: 1<<60 - 1},
		{text: "shr r1 r2 r3", b: half, c: 63, want: 1},
		{text: "shr r1 r2 r3", b: last, c: 64, want: 0},
		{text: "shr r1 r2 r3", b: last, c: half, want: 0},
		{text: "less r1 r2 r3", b: 2, c: 3, want: 1},
		{text: "less r1 r2 r3", b: 3, c: 3, want: 0},
		{text: "less r1 r2 r3", b: 4, c: 3, want: 0},
		{text: "less r1 r2 r3", b: 1, c: last, want: 1},
		{text: "less r1 r2 r3", b: half, c: 1, want: 0},
		{text: "same r1 r2 r3", b: 3, c: 3, want: 1},
		{text: "same r1 r2 r3", b: 3, c: 1<<32 + 3, want: 0},
		{text: "same r1 r1 r1", a: last, want: 1},
	} {
		st := regs(1000, 77, x.a, x.b, x.c, 88)
		want := regs(1004, 77, x.want, x.b, x.c, 88)
		if what := cpu.Step(&st, bench(built(t, x.text))); what != api.Ran || st != want {
			t.Errorf("%s of %d, %d, %d: %v, answered %d", x.text, x.a, x.b, x.c, st, what)
		}
	}
}

// TestMoves: where the next instruction is taken from.
func TestMoves(t *testing.T) {
	for _, x := range []struct {
		text       string
		st         api.State
		pc, r1, r2 uint64
	}{
		{"nop", regs(1000), 1004, 0, 0},
		{"go 0", regs(1000), 1004, 0, 0},
		{"go 5", regs(1000), 1024, 0, 0},
		{"go -1", regs(1000), 1000, 0, 0},
		{"go 32767", regs(1000), 1004 + 4*32767, 0, 0},
		{"go -32768", regs(1000), last - 4*32768 + 1005, 0, 0},
		{"zero r1 5", regs(1000), 1024, 0, 0},
		{"zero r1 -2", regs(1000), 996, 0, 0},
		{"zero r1 5", regs(1000, 0, 1), 1004, 1, 0},
		{"zero r1 5", regs(1000, 0, 1<<63), 1004, 1 << 63, 0},
		{"not r1 5", regs(1000), 1004, 0, 0},
		{"not r1 5", regs(1000, 0, 1), 1024, 1, 0},
		{"not r1 -2", regs(1000, 0, 1<<32), 996, 1 << 32, 0},
		{"call r1 r2", regs(1000, 0, 3, 500), 500, 1004, 500},
		{"call r1 r1", regs(1000, 0, 500, 3), 500, 1004, 3},
		{"call r1 r2", regs(1000, 0, 3, last), last, 1004, last},
		{"back", api.State{Pc: 1000, R: [16]uint64{15: 500}}, 500, 0, 0},
		{"back", api.State{Pc: 1000, R: [16]uint64{0: 9, 14: 8, 15: last}}, last, 0, 0},
	} {
		want := x.st
		want.Pc, want.R[1], want.R[2] = x.pc, x.r1, x.r2
		st := x.st
		if what := cpu.Step(&st, bench(built(t, x.text))); what != api.Ran || st != want {
			t.Errorf("%s of %v: %v, answered %d", x.text, x.st, st, what)
		}
	}
}

// TestEnds: what a step that isn't like the others answers, and that all but a call leave the state as it was.
func TestEnds(t *testing.T) {
	for _, x := range []struct {
		code string
		pc   uint64
		what int
		to   uint64
	}{
		{"\x02\x00\x00\x00", 1000, api.Called, 1004},
		{"\x00\x00\x00\x00", 1000, api.Halted, 1000},
		{"\x1b\x00\x00\x00", 1000, api.Broke, 1000},
		{"\xff\xff\xff\xff", 1000, api.Broke, 1000},
		{"\x00\x00\x00\x01", 1000, api.Broke, 1000},
		{"\x01\x01\x00\x00", 1000, api.Broke, 1000},
		{"\x02\x00\x01\x00", 1000, api.Broke, 1000},
		{"\x03\x10\x00\x00", 1000, api.Broke, 1000},
		{"\x05\x01\x02\x01", 1000, api.Broke, 1000},
		{"\x06\x01\x02\x10", 1000, api.Broke, 1000},
		{"\x16\x01\x00\x00", 1000, api.Broke, 1000},
		{"\x02\x00\x00\x00", 1001, api.Faulted, 1001},
		{"\x02\x00\x00\x00", 999, api.Faulted, 999},
		{"\x02\x00\x00", 1000, api.Faulted, 1000},
		{"", 1000, api.Faulted, 1000},
		{"\x02\x00\x00\x00", 0, api.Faulted, 0}, // it may be read and written, but not run
		{"\x02\x00\x00\x00", last, api.Faulted, last},
		{"\x02\x00\x00\x00", last - 3, api.Faulted, last - 3},
	} {
		st := regs(x.pc, 1, 2, 3, 4, 5)
		l := bench(x.code)
		before := l.copied()
		what := cpu.Step(&st, l)
		if what != x.what || st != regs(x.to, 1, 2, 3, 4, 5) || l.changed(before) != 0 {
			t.Errorf("%q at %d: %v, answered %d", x.code, x.pc, st, what)
		}
	}
}

// TestSteps: over whatever memory, bytes and registers a step does what the model does; it changes no more than it may.
func TestSteps(t *testing.T) {
	d := dice(6)
	ends := map[int]int{}
	for range 200000 {
		low := make([]byte, d.roll(80))
		high := make([]byte, 1+d.roll(40))
		for _, row := range [][]byte{low, high} {
			for i := range row {
				row[i] = byte(d.roll(256))
			}
		}
		l := &land{err: api.Errno(1 + d.roll(12)), parts: []part{
			{from: 0, row: low, write: d.roll(4) > 0, run: d.roll(4) > 0},
			{from: 1000, row: d.code(), write: d.roll(2) == 0, run: d.roll(9) > 0},
			{from: last - uint64(len(high)) + 1, row: high, write: d.roll(4) > 0, run: d.roll(4) > 0},
		}}
		st := api.State{Pc: 1000}
		if d.roll(20) == 0 {
			st.Pc = d.number(0, 1000, last-40)
		}
		for i := range st.R {
			st.R[i] = d.number(0, 1000, last-40)
		}
		if d.roll(30) == 0 {
			st.R[d.roll(16)] = 0
		}
		old, before := st, l.copied()
		want, meant := st, l.copied()
		end := model(&want, meant)
		what := cpu.Step(&st, l)
		if what != end || st != want || l.changed(meant) != 0 {
			t.Fatalf("%q from %v: %v, answered %d, not %v, %d", before.parts[1].row, old, st, what, want, end)
		}
		little(t, what, old, st, l.changed(before))
		ends[what]++
	}
	for what := api.Ran; what <= api.Broke; what++ {
		if ends[what] < 1000 {
			t.Errorf("%d steps were answered %d", ends[what], what)
		}
	}
}

// little fails if a step changed more than it may.
func little(t *testing.T, what int, old, st api.State, bytes int) {
	t.Helper()
	registers := 0
	for i := range st.R {
		if st.R[i] != old.R[i] {
			registers++
		}
	}
	switch what {
	case api.Ran, api.Called:
		if registers > 1 || bytes > 8 {
			t.Errorf("%d registers and %d bytes have changed", registers, bytes)
		}
	default:
		if st != old || bytes > 0 {
			t.Errorf("answered %d, but %v is %v, and %d bytes have changed", what, old, st, bytes)
		}
	}
}

// TestAllBytes: each first byte, with others at their ends, is an instruction or none, as the chapter's table says.
func TestAllBytes(t *testing.T) {
	others := []byte{0, 1, 2, 14, 15, 16, 17, 127, 128, 240, 255}
	for op := range 256 {
		for _, a := range others {
			for _, b := range others {
				for _, c := range others {
					code := []byte{byte(op), a, b, c}
					l := bench(string(code))
					st := regs(1000, 8, 1000, last, 7, 0, 64, 63, 3)
					want, meant := st, l.copied()
					end := model(&want, meant)
					if what := cpu.Step(&st, l); what != end || st != want || l.changed(meant) != 0 {
						t.Fatalf("%q: %v, answered %d, not %v, %d", code, st, what, want, end)
					}
				}
			}
		}
	}
}
