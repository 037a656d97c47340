package isa_test

import (
	"slices"
	"strings"
	"testing"

	"gatehouse/api"
	"gatehouse/isa"
)

func TestParseRefuses(t *testing.T) {
	for _, s := range []string{
		"", " ", "\n", "\x00", "r1", "5", "x", "Halt", "HALT", "hal", "halts", "stop", "\xff", "halt\xff",
		"halt ", " halt", "halt\n", "halt\r", "\thalt", "halt 0", "halt r0", "nop  ", "sys 1", "back r15",
		"set", "set ", "set r1", "set r1 ", "set r1  5", "set  r1 5", "set\tr1 5", "set r1 5 ", "set r1 5 6", "set 5 r1", "set r1 r5", "set 1 5", "setr1 5", "set r1,5",
		"set r1 65536", "set r1 -1", "set r1 +5", "set r1 05", "set r1 00", "set r1 -0", "set r1 5_0", "set r1 0x5", "set r1 5.0", "set r1 1e3", "set r1 x", "set r1 \xd9\xa5",
		"set r1 4294967296", "set r1 18446744073709551616", "set r1 18446744073709551621", "set r1 9223372036854775808", "set r1 -9223372036854775809",
		"set r01 5", "set r16 5", "set r-1 5", "set r+1 5", "set r-0 5", "set r 5", "set R1 5", "set rr1 5", "set r1r 5", "set r00 5", "set r18446744073709551617 5", "set r4294967297 5",
		"move r1", "move r1 r2 r3", "move r1 r2 0", "move r1 2", "call r1", "call r1 5",
		"add r1 r2", "add r1 r2 3", "add r1 r2 r16", "add r1 r16 r2", "add r16 r1 r2", "add r1 r2 r3 r4", "add r1 r2 r3 0", "add r1 r2 r3 ", "add r1  r2 r3",
		"load r1 r2", "load r1 r2 256", "load r1 r2 -1", "load r1 r2 r3", "load r1 r2 007", "load r1 5",
		"go", "go ", "go x", "go r1", "go r1 5", "go 05", "go +5", "go -", "go -0", "go --5", "go - 5", "go -05", "go -32769", "go 32768", "go 65535", "go 5 5",
		"zero r1", "zero 5", "zero r1 x", "zero r1 32768", "not r1 -32769", "not r1 r2",
		strings.Repeat(" ", 100000), strings.Repeat("go ", 100000), "go " + strings.Repeat("0", 100000), "go " + strings.Repeat("9", 100000), "set r" + strings.Repeat("0", 100000) + "1 5",
	} {
		if c, e := isa.Parse(s); e != api.ErrForm || c != (api.Code{}) {
			t.Errorf("%q: %v %d", s, c, e)
		}
	}
}

// TestAlmostTexts: whatever sign of a text is left out, put in or put in the place of another one, and whatever two texts are mixed, what is parsed is what the signs say.
func TestAlmostTexts(t *testing.T) {
	const signs = "0123456789 -+rx:\n\x00\xffgo"
	try := func(s string) {
		want, ok := parsed(s)
		got, e := isa.Parse(s)
		if ok != (e == api.OK) || !ok && e != api.ErrForm || got != want {
			t.Errorf("%q: %v %d, want %v %v", s, got, e, want, ok)
		}
	}
	for _, c := range edges() {
		base := textOf(c)
		for i := range len(base) + 1 {
			for j := range len(signs) {
				try(base[:i] + signs[j:j+1] + base[i:])
			}
		}
		for i := range len(base) {
			try(base[:i])
			try(base[i:])
			try(base[:i] + base[i+1:])
			for j := range len(signs) {
				try(base[:i] + signs[j:j+1] + base[i+1:])
			}
		}
		for _, o := range table {
			_, rest, _ := strings.Cut(base, " ")
			try(o.name + " " + rest)
			try(o.name + rest)
		}
	}
}

func TestList(t *testing.T) {
	for _, x := range []struct {
		s    string
		want []string
		e    api.Errno
	}{
		{"", nil, api.OK},
		{"\x00\x00\x00\x00", []string{"halt"}, api.OK},
		{"\x06\x01\x01\x02\x16\x00\xfe\xff", []string{"add r1 r1 r2", "go -2"}, api.OK},
		{"\x01\x00\x00\x00\x01\x00\x00\x00\x00\x00\x00\x00", []string{"nop", "nop", "halt"}, api.OK},
		{"\x00", nil, api.ErrCode},
		{"\x00\x00\x00", nil, api.ErrCode},
		{"\x00\x00\x00\x00\x00", nil, api.ErrCode},
		{"\x00\x00\x00\x00\x00\x00\x00", nil, api.ErrCode},
		{"\x1b\x00\x00\x00", nil, api.ErrCode},
		{"\x00\x00\x00\x00\x1b\x00\x00\x00", nil, api.ErrCode},
		{"\x1b\x00\x00\x00\x00\x00\x00\x00", nil, api.ErrCode},
		{"\x00\x00\x00\x00\x00\x01\x00\x00\x00\x00\x00\x00", nil, api.ErrCode},
		{"\x00\x00\x00\x06\x01\x01\x02\x00", nil, api.ErrCode},
	} {
		got, e := isa.List(x.s)
		if e != x.e || !slices.Equal(got, x.want) {
			t.Errorf("%q: %q %d", x.s, got, e)
		}
	}
}

// TestListIsNew: two answers share nothing.
func TestListIsNew(t *testing.T) {
	s := "\x01\x00\x00\x00\x00\x00\x00\x00"
	first, _ := isa.List(s)
	second, _ := isa.List(s)
	second[0], second[1] = "", ""
	if again, _ := isa.List(s); !slices.Equal(first, []string{"nop", "halt"}) || !slices.Equal(again, first) {
		t.Error(first, again)
	}
}

// TestThereAndBack: of programs of all lengths List tells the texts, and Build of them the bytes.
func TestThereAndBack(t *testing.T) {
	d := dice(1)
	for n := 0; n <= 1024; n += 1 + n/7 {
		thereAndBack(t, &d, n)
	}
	thereAndBack(t, &d, 1024)
	s := ""
	for _, c := range edges()[:1000] {
		s += bytesOf(c)
	}
	texts, _ := isa.List(s)
	if got, line, e := isa.Build(strings.Join(texts, "\n")); got != s || line != 0 || e != api.OK {
		t.Error(len(got), line, e)
	}
}

func thereAndBack(t *testing.T, d *dice, n int) {
	t.Helper()
	s := ""
	var want []string
	for range n {
		c := d.code()
		s += bytesOf(c)
		want = append(want, textOf(c))
	}
	texts, e := isa.List(s)
	if e != api.OK || !slices.Equal(texts, want) {
		t.Errorf("%q: %q %d", s, texts, e)
	}
	if got, line, e := isa.Build(strings.Join(texts, "\n")); got != s || line != 0 || e != api.OK {
		t.Errorf("%q: %q %d %d", texts, got, line, e)
	}
}
