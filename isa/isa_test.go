package isa_test

import (
	"math"
	"testing"

	"gatehouse/api"
	"gatehouse/isa"
)

// holds fails unless all calls answer of a right instruction its bytes and its text, and of these the instruction.
func holds(t *testing.T, x api.Code, bytes, text string) {
	t.Helper()
	s, e := isa.Encode(x)
	w, f := isa.Text(x)
	c, g := isa.Decode(bytes)
	d, h := isa.Parse(text)
	if !isa.Right(x) || e != api.OK || f != api.OK || g != api.OK || h != api.OK || s != bytes || w != text || c != x || d != x {
		t.Errorf("%v: %v, %q %d, %q %d, %v %d, %v %d", x, isa.Right(x), s, e, w, f, c, g, d, h)
	}
}

// refuses fails unless an instruction isn't right, and has neither bytes nor a text.
func refuses(t *testing.T, x api.Code) {
	t.Helper()
	s, e := isa.Encode(x)
	w, f := isa.Text(x)
	if isa.Right(x) || e != api.ErrCode || f != api.ErrCode || s != "" || w != "" {
		t.Errorf("%v: %v, %q %d, %q %d", x, isa.Right(x), s, e, w, f)
	}
}

func TestEachOperation(t *testing.T) {
	for _, x := range []struct {
		c           api.Code
		bytes, text string
	}{
		{api.Code{Op: api.OpHalt}, "\x00\x00\x00\x00", "halt"},
		{api.Code{Op: api.OpNop}, "\x01\x00\x00\x00", "nop"},
		{api.Code{Op: api.OpSys}, "\x02\x00\x00\x00", "sys"},
		{api.Code{Op: api.OpSet, A: 3, N: 500}, "\x03\x03\xf4\x01", "set r3 500"},
		{api.Code{Op: api.OpSet, A: 15, N: 65535}, "\x03\x0f\xff\xff", "set r15 65535"},
		{api.Code{Op: api.OpMore, N: 256}, "\x04\x00\x00\x01", "more r0 256"},
		{api.Code{Op: api.OpMove, A: 1, B: 2}, "\x05\x01\x02\x00", "move r1 r2"},
		{api.Code{Op: api.OpAdd, A: 1, B: 2, C: 15}, "\x06\x01\x02\x0f", "add r1 r2 r15"},
		{api.Code{Op: api.OpSub, A: 1, B: 2, C: 3}, "\x07\x01\x02\x03", "sub r1 r2 r3"},
		{api.Code{Op: api.OpMul, A: 1, B: 2, C: 3}, "\x08\x01\x02\x03", "mul r1 r2 r3"},
		{api.Code{Op: api.OpDiv, A: 1, B: 2, C: 3}, "\x09\x01\x02\x03", "div r1 r2 r3"},
		{api.Code{Op: api.OpMod, A: 1, B: 2, C: 3}, "\x0a\x01\x02\x03", "mod r1 r2 r3"},
		{api.Code{Op: api.OpAnd, A: 1, B: 2, C: 3}, "\x0b\x01\x02\x03", "and r1 r2 r3"},
		{api.Code{Op: api.OpOr, A: 1, B: 2, C: 3}, "\x0c\x01\x02\x03", "or r1 r2 r3"},
		{api.Code{Op: api.OpXor, A: 1, B: 2, C: 3}, "\x0d\x01\x02\x03", "xor r1 r2 r3"},
		{api.Code{Op: api.OpShl, A: 1, B: 2, C: 3}, "\x0e\x01\x02\x03", "shl r1 r2 r3"},
		{api.Code{Op: api.OpShr, A: 1, B: 2, C: 3}, "\x0f\x01\x02\x03", "shr r1 r2 r3"},
		{api.Code{Op: api.OpLess, A: 1, B: 2, C: 3}, "\x10\x01\x02\x03", "less r1 r2 r3"},
		{api.Code{Op: api.OpSame, A: 1, B: 2, C: 3}, "\x11\x01\x02\x03", "same r1 r2 r3"},
		{api.Code{Op: api.OpLoad, A: 4, B: 5, N: 7}, "\x12\x04\x05\x07", "load r4 r5 7"},
		{api.Code{Op: api.OpKeep, A: 4, B: 5, N: 255}, "\x13\x04\x05\xff", "keep r4 r5 255"},
		{api.Code{Op: api.OpPull, A: 4, B: 5}, "\x14\x04\x05\x00", "pull r4 r5 0"},
		{api.Code{Op: api.OpPush, A: 10, B: 11, N: 16}, "\x15\x0a\x0b\x10", "push r10 r11 16"},
		{api.Code{Op: api.OpGo, N: -32768}, "\x16\x00\x00\x80", "go -32768"},
		{api.Code{Op: api.OpGo, N: 32767}, "\x16\x00\xff\x7f", "go 32767"},
		{api.Code{Op: api.OpGo, N: -1}, "\x16\x00\xff\xff", "go -1"},
		{api.Code{Op: api.OpGo}, "\x16\x00\x00\x00", "go 0"},
		{api.Code{Op: api.OpZero, A: 1, N: -2}, "\x17\x01\xfe\xff", "zero r1 -2"},
		{api.Code{Op: api.OpNot, A: 1, N: -256}, "\x18\x01\x00\xff", "not r1 -256"},
		{api.Code{Op: api.OpCall, A: 15, B: 9}, "\x19\x0f\x09\x00", "call r15 r9"},
		{api.Code{Op: api.OpBack}, "\x1a\x00\x00\x00", "back"},
	} {
		holds(t, x.c, x.bytes, x.text)
	}
}

// TestFields: whatever stands in each field, right is what the chapter's table says.
func TestFields(t *testing.T) {
	ops := []int{math.MinInt, -256, -1, 27, 28, 255, 256, 256 + 6, 1 << 32, math.MaxInt}
	for i := range 27 {
		ops = append(ops, i)
	}
	registers := []int{math.MinInt, -1, 0, 1, 15, 16, 256, 1 << 32, math.MaxInt}
	numbers := []int{math.MinInt, -65536, -32769, -32768, -1, 0, 1, 255, 256, 32767, 32768, 65535, 65536, 1 << 32, math.MaxInt}
	for _, o := range ops {
		for _, a := range registers {
			for _, b := range registers {
				for _, c := range registers {
					for _, n := range numbers {
						if x := (api.Code{Op: o, A: a, B: b, C: c, N: n}); isRight(x) {
							holds(t, x, bytesOf(x), textOf(x))
						} else {
							refuses(t, x)
						}
					}
				}
			}
		}
	}
}

// TestNumbers: every number of 16 bits there and back.
func TestNumbers(t *testing.T) {
	for n := -32768; n <= 65535; n++ {
		for _, o := range []int{api.OpSet, api.OpMore, api.OpGo, api.OpZero, api.OpNot} {
			if x := (api.Code{Op: o, N: n}); isRight(x) {
				holds(t, x, bytesOf(x), textOf(x))
			} else {
				refuses(t, x)
			}
		}
	}
}

// TestDecode: four bytes are an instruction just if it has these bytes.
func TestDecode(t *testing.T) {
	bytes := []byte{0, 1, 2, 14, 15, 16, 17, 31, 127, 128, 129, 254, 255}
	known := map[string]api.Code{}
	for _, o := range table {
		low, high := span(o.shape)
		for a := range most(o.shape, "A") + 1 {
			for b := range most(o.shape, "B") + 1 {
				for c := range most(o.shape, "C") + 1 {
					for n := low; n <= high; n++ {
						// Of the wide numbers those alone that are asked for.
						if s := bytesOf(api.Code{Op: o.op, A: a, B: b, C: c, N: n}); high < 256 || contains(bytes, s[2]) && contains(bytes, s[3]) {
							known[s] = api.Code{Op: o.op, A: a, B: b, C: c, N: n}
						}
					}
				}
			}
		}
	}
	for o := range 256 {
		for _, a := range bytes {
			for _, b := range bytes {
				for _, c := range bytes {
					s := string([]byte{byte(o), a, b, c})
					want, ok := known[s]
					got, e := isa.Decode(s)
					if ok != (e == api.OK) || !ok && e != api.ErrCode || got != want {
						t.Errorf("%q: %v %d", s, got, e)
					}
				}
			}
		}
	}
}

func contains(row []byte, b byte) bool {
	for _, x := range row {
		if x == b {
			return true
		}
	}
	return false
}

func TestDecodeRefuses(t *testing.T) {
	for _, s := range []string{
		"", "\x00", "\x00\x00", "\x00\x00\x00", "\x00\x00\x00\x00\x00", "\x00\x00\x00\x00\x00\x00\x00\x00", "halt",
		"\x1b\x00\x00\x00", "\xff\x00\x00\x00", "\x80\x00\x00\x00",
		"\x00\x01\x00\x00", "\x01\x00\x01\x00", "\x02\x00\x00\x01", "\x1a\x0f\x00\x00",
		"\x03\x10\x00\x00", "\x04\xff\x00\x00",
		"\x05\x01\x02\x01", "\x05\x10\x02\x00", "\x05\x01\x10\x00", "\x19\x01\x02\x01",
		"\x06\x10\x00\x00", "\x06\x00\x10\x00", "\x06\x00\x00\x10", "\x11\x00\x00\xff",
		"\x12\x10\x00\x00", "\x15\x00\x10\x00",
		"\x16\x01\x00\x00", "\x17\x10\x00\x00", "\x18\x80\x00\x00",
	} {
		if c, e := isa.Decode(s); e != api.ErrCode || c != (api.Code{}) {
			t.Errorf("%q: %v %d", s, c, e)
		}
	}
}
