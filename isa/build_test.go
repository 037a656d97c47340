package isa_test

import (
	"strconv"
	"strings"
	"testing"

	"gatehouse/api"
	"gatehouse/isa"
)

const (
	halt    = "\x00\x00\x00\x00"
	nop     = "\x01\x00\x00\x00"
	sixteen = "abcdefghijklmnop"
)

func TestBuild(t *testing.T) {
	for _, x := range []struct{ text, want string }{
		{"", ""},
		{"\n", ""},
		{"\n\n\n", ""},
		{"halt", halt},
		{"halt\n", halt},
		{"\nhalt", halt},
		{"\n\nnop\n\nhalt\n\n", nop + halt},
		{"again:\nadd r1 r1 r2\ngo again\n", "\x06\x01\x01\x02\x16\x00\xfe\xff"},
		{"go end\nhalt\nend:", "\x16\x00\x01\x00" + halt},
		{"x:", ""},
		{"x:\ny:\nz:\n", ""},
		{"x:\ngo x", "\x16\x00\xff\xff"},
		{"go x\nx:", "\x16\x00\x00\x00"},
		{"\n\ngo x\n\n\nx:\n\n", "\x16\x00\x00\x00"},
		{"go x\nx:\nhalt", "\x16\x00\x00\x00" + halt},
		{"nop\nx:\ny:\nhalt\ngo x\ngo y", nop + halt + "\x16\x00\xfe\xff\x16\x00\xfd\xff"},
		{"x:\nnop\ny:\ngo x\ngo y", nop + "\x16\x00\xfe\xff\x16\x00\xfe\xff"},
		{"zero r3 x\nnot r15 x\nx:", "\x17\x03\x01\x00\x18\x0f\x00\x00"},
		{"x:\nzero r0 x\nnot r10 x", "\x17\x00\xff\xff\x18\x0a\xfe\xff"},
		{"go 5\nx:\ngo -32768\nzero r1 32767\nnot r2 -1", "\x16\x00\x05\x00\x16\x00\x00\x80\x17\x01\xff\x7f\x18\x02\xff\xff"},
		{sixteen + ":\ngo " + sixteen, "\x16\x00\xff\xff"},
		{"a:\nz:\ngo a\ngo z", "\x16\x00\xff\xff\x16\x00\xfe\xff"},
		{"go:\nhalt:\nr:\ngo go\ngo halt\nzero r1 r", "\x16\x00\xff\xff\x16\x00\xfe\xff\x17\x01\xfd\xff"},
	} {
		if s, line, e := isa.Build(x.text); s != x.want || line != 0 || e != api.OK {
			t.Errorf("%q: %q %d %d", x.text, s, line, e)
		}
	}
}

func TestBuildRefuses(t *testing.T) {
	for _, x := range []struct {
		text string
		line int
		e    api.Errno
	}{
		{"go x", 1, api.ErrNone},
		{"x:\ngo y", 2, api.ErrNone},
		{"\n\ngo x\n", 3, api.ErrNone},
		{"go x\nx:\ngo y\ngo z", 3, api.ErrNone},
		{"zero r1 x", 1, api.ErrNone},
		{"not r1 x", 1, api.ErrNone},
		{"go xx\nx:", 1, api.ErrNone},
		{"go halt\nhalt", 1, api.ErrNone},
		{"x:\nx:", 2, api.ErrForm},
		{"x:\nhalt\n\nx:\n", 4, api.ErrForm},
		{"x:\nx:\ny:\ny:", 2, api.ErrForm},
		{"halt:\nhalt:", 2, api.ErrForm},
		{"nop\n\nset r1 x\nx:", 3, api.ErrForm},
		{"go y\nx:\nx:", 3, api.ErrForm},
		{"go x\nwhat", 2, api.ErrForm},
		{"what\nx:\nx:", 1, api.ErrForm},
		{"x:\nx:\nwhat", 2, api.ErrForm},
		{":", 1, api.ErrForm},
		{"::", 1, api.ErrForm},
		{"x::", 1, api.ErrForm},
		{":x", 1, api.ErrForm},
		{"x: ", 1, api.ErrForm},
		{" x:", 1, api.ErrForm},
		{"x :", 1, api.ErrForm},
		{"X:", 1, api.ErrForm},
		{"x1:", 1, api.ErrForm},
		{"x_y:", 1, api.ErrForm},
		{"`:", 1, api.ErrForm},
		{"{:", 1, api.ErrForm},
		{"\xc3\xa4:", 1, api.ErrForm},
		{"x y:", 1, api.ErrForm},
		{"x:halt", 1, api.ErrForm},
		{"x: halt", 1, api.ErrForm},
		{"go x:", 1, api.ErrForm},
		{"halt\r\n", 1, api.ErrForm},
		{" ", 1, api.ErrForm},
		{"\t", 1, api.ErrForm},
		{"\x00", 1, api.ErrForm},
		{"halt ", 1, api.ErrForm},
		{"halt\n halt", 2, api.ErrForm},
		{"halt;halt", 1, api.ErrForm},
		{"x", 1, api.ErrForm},
		{"x:\nx", 2, api.ErrForm},
		{"x:\ngo", 2, api.ErrForm},
		{"x:\ngo ", 2, api.ErrForm},
		{"x:\ngo  x", 2, api.ErrForm},
		{"x:\ngo x ", 2, api.ErrForm},
		{"x:\n go x", 2, api.ErrForm},
		{"x:\n x", 2, api.ErrForm},
		{"x:\ngo x x", 2, api.ErrForm},
		{"x:\ngo r1 x", 2, api.ErrForm},
		{"x:\ngo 5 x", 2, api.ErrForm},
		{"x:\ngo -x", 2, api.ErrForm},
		{"x:\ngo X", 2, api.ErrForm},
		{"x:\ngo x1", 2, api.ErrForm},
		{"x:\ngo\tx", 2, api.ErrForm},
		{"x:\nzero x", 2, api.ErrForm},
		{"x:\nzero x r1", 2, api.ErrForm},
		{"x:\nzero r16 x", 2, api.ErrForm},
		{"x:\nzero r01 x", 2, api.ErrForm},
		{"x:\nzero r1 r2 x", 2, api.ErrForm},
		{"x:\nzero 1 x", 2, api.ErrForm},
		{"x:\nhalt x", 2, api.ErrForm},
		{"x:\nset r1 x", 2, api.ErrForm},
		{"x:\nload r1 r2 x", 2, api.ErrForm},
		{"x:\nadd r1 r2 x", 2, api.ErrForm},
		{"x:\nmove r1 x", 2, api.ErrForm},
		{"x:\ncall r1 x", 2, api.ErrForm},
		{"go 32768", 1, api.ErrForm},
		{"set r1 65536", 1, api.ErrForm},
		{sixteen + "q:", 1, api.ErrForm},
		{"go " + sixteen + "q", 1, api.ErrForm},
		{"go " + sixteen, 1, api.ErrNone},
	} {
		if s, line, e := isa.Build(x.text); s != "" || line != x.line || e != x.e {
			t.Errorf("%q: %q %d %d, want %d %d", x.text, s, line, e, x.line, x.e)
		}
	}
}

// TestCrowded: 1024 lines are just not too many, whatever stands on them; empty lines and those that end with ":" aren't counted.
func TestCrowded(t *testing.T) {
	nops, bad := strings.Repeat("nop\n", 1024), strings.Repeat("what\n", 1024)
	bytes := strings.Repeat(nop, 1024)
	for i, x := range []struct {
		text, want string
		line       int
		e          api.Errno
	}{
		{nops, bytes, 0, api.OK},
		{strings.TrimSuffix(nops, "\n"), bytes, 0, api.OK},
		{"\n\nx:\n" + nops + "y:\n\nz:\n\n", bytes, 0, api.OK},
		{nops + "nop", "", 0, api.ErrFull},
		{nops + "nop\n", "", 0, api.ErrFull},
		{nops + " ", "", 0, api.ErrFull},
		{nops + "what", "", 0, api.ErrFull},
		{nops + "go x", "", 0, api.ErrFull},
		{"what\n" + nops, "", 0, api.ErrFull},
		{"x:\nx:\n" + nops + "nop", "", 0, api.ErrFull},
		{nops + "what is it:", "", 1025, api.ErrForm},
		{nops + ":", "", 1025, api.ErrForm},
		{nops + nops, "", 0, api.ErrFull},
		{bad, "", 1, api.ErrForm},
		{bad + "what", "", 0, api.ErrFull},
		{strings.Repeat("nop\n", 1023) + "what", "", 1024, api.ErrForm},
		{strings.Repeat("nop\n", 1023) + "go x", "", 1024, api.ErrNone},
		{"go x\n" + strings.Repeat("nop\n", 1023) + "x:", "\x16\x00\xff\x03" + strings.Repeat(nop, 1023), 0, api.OK},
		{"x:\n" + strings.Repeat("nop\n", 1023) + "go x", strings.Repeat(nop, 1023) + "\x16\x00\x00\xfc", 0, api.OK},
	} {
		if s, line, e := isa.Build(x.text); s != x.want || line != x.line || e != x.e {
			t.Errorf("%d: %d bytes, %d %d", i, len(s), line, e)
		}
	}
}

// TestLongTexts: neither places nor empty lines are bounded, nor is a line's length.
func TestLongTexts(t *testing.T) {
	var places strings.Builder
	for i := range 1 << 16 {
		places.WriteString(letters(i) + ":\n")
	}
	const most = 1 << 20
	for i, x := range []struct {
		text, want string
		line       int
		e          api.Errno
	}{
		{strings.Repeat("\n", most) + "nop", nop, 0, api.OK},
		{strings.Repeat("\n", most) + "what", "", most + 1, api.ErrForm},
		{strings.Repeat("\n", most) + "go x", "", most + 1, api.ErrNone},
		{"nop\n" + places.String() + "go " + letters(1<<16-1), nop + "\x16\x00\xff\xff", 0, api.OK},
		{places.String() + letters(0) + ":", "", 1<<16 + 1, api.ErrForm},
		{places.String() + "go " + letters(1<<16), "", 1<<16 + 1, api.ErrNone},
		{"go " + strings.Repeat("x", most), "", 1, api.ErrForm},
		{strings.Repeat("x", most) + ":", "", 1, api.ErrForm},
		{strings.Repeat(":", most), "", 1, api.ErrForm},
		{strings.Repeat(" ", most) + "x", "", 1, api.ErrForm},
		{"go " + strings.Repeat("0", most), "", 1, api.ErrForm},
	} {
		if s, line, e := isa.Build(x.text); s != x.want || line != x.line || e != x.e {
			t.Errorf("%d: %d bytes, %d %d", i, len(s), line, e)
		}
	}
}

// letters answers another name for each number.
func letters(n int) string {
	row := []byte(strconv.Itoa(n))
	for i := range row {
		row[i] += 'a' - '0'
	}
	return string(row)
}

// TestAnyPrograms: texts of lines that are right, almost right, or any bytes.
func TestAnyPrograms(t *testing.T) {
	d := dice(2)
	counts := map[api.Errno]int{}
	for range 20000 {
		text := d.program()
		want, wantLine, wantE := built(text)
		s, line, e := isa.Build(text)
		if s != want || line != wantLine || e != wantE {
			t.Errorf("%q: %q %d %d, want %q %d %d", text, s, line, e, want, wantLine, wantE)
		}
		counts[e]++
	}
	for _, e := range []api.Errno{api.OK, api.ErrForm, api.ErrNone} {
		if counts[e] < 1000 {
			t.Error("too few answers of one kind", counts)
		}
	}
}

// program answers a text of some lines, few of them wrong.
func (d *dice) program() string {
	var lines []string
	for range d.roll(10) {
		lines = append(lines, d.line())
	}
	text := strings.Join(lines, "\n")
	if len(text) > 0 && d.roll(6) == 0 {
		const signs = "a0 r:\n-\x00\xff"
		i, j := d.roll(len(text)), d.roll(len(signs))
		text = text[:i] + signs[j:j+1] + text[i+1:]
	}
	return text
}

func (d *dice) line() string {
	register, place := strconv.Itoa(d.roll(16)), letters(d.roll(20))
	switch d.roll(8) {
	case 0:
		return ""
	case 1, 2, 3:
		return place + ":"
	case 4:
		return "go " + letters(d.roll(4))
	case 5:
		return "zero r" + register + " " + letters(d.roll(4))
	case 6:
		return "not r" + register + " a"
	}
	return textOf(d.code())
}
