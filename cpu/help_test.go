package cpu_test

import (
	"math/big"
	"slices"
	"testing"

	"gatehouse/api"
	"gatehouse/isa"
	"gatehouse/pages"
)

const (
	least   = -1 << 63
	highest = 1<<63 - 1
	last    = 1<<64 - 1
)

// built answers the bytes of a program.
func built(t *testing.T, text string) string {
	t.Helper()
	s, line, e := isa.Build(text)
	if e != api.OK {
		t.Fatalf("line %d of %q: error %d", line, text, e)
	}
	return s
}

// filled answers n bytes, of which the first ones are those.
func filled(t *testing.T, n int, s string) *pages.Bytes {
	t.Helper()
	b, e := pages.New(n)
	if e != api.OK || b.Write(0, s) != api.OK {
		t.Fatalf("no %d bytes with %d first ones: %d", n, len(s), e)
	}
	return b
}

// all answers the bytes as they are.
func all(t *testing.T, b *pages.Bytes) string {
	t.Helper()
	s, e := b.Read(0, b.Len())
	if e != api.OK {
		t.Fatalf("Read: error %d", e)
	}
	return s
}

// regs answers a state whose first registers are those.
func regs(pc uint64, r ...uint64) api.State {
	st := api.State{Pc: pc}
	copy(st.R[:], r)
	return st
}

// part is a row of bytes from an address on, and what they may be used for; they may always be read.
type part struct {
	from       uint64
	row        []byte
	write, run bool
}

// asked is a call that a memory got.
type asked struct {
	addr    uint64
	n, need int
	s       string
}

// land is a memory of some parts, and which calls it got; what fails is answered with the error.
type land struct {
	parts []part
	err   api.Errno
	got   []asked
}

// at answers where a byte stands, if it may be used so.
func (l *land) at(addr uint64, need int) *byte {
	for _, p := range l.parts {
		allowed := need == api.ToRead || need == api.ToWrite && p.write || need == api.ToRun && p.run
		if addr >= p.from && addr-p.from < uint64(len(p.row)) && allowed {
			return &p.row[addr-p.from]
		}
	}
	return nil
}

// span answers where bytes stand, none if one of them can't be used so. There is no first address behind the last one.
func (l *land) span(addr uint64, n, need int) []*byte {
	var list []*byte
	for i := range uint64(n) {
		b := l.at(addr+i, need)
		if b == nil || addr+i < addr {
			return nil
		}
		list = append(list, b)
	}
	return list
}

func (l *land) Load(addr uint64, n, need int) (string, api.Errno) {
	l.got = append(l.got, asked{addr: addr, n: n, need: need})
	list := l.span(addr, n, need)
	if list == nil {
		return "", l.err
	}
	s := ""
	for _, b := range list {
		s += string([]byte{*b})
	}
	return s, api.OK
}

func (l *land) Store(addr uint64, s string) api.Errno {
	l.got = append(l.got, asked{addr: addr, n: len(s), need: api.ToWrite, s: s})
	list := l.span(addr, len(s), api.ToWrite)
	if list == nil {
		return l.err
	}
	for i, b := range list {
		*b = s[i]
	}
	return api.OK
}

// copied answers another land of the same bytes.
func (l *land) copied() *land {
	o := &land{err: l.err}
	for _, p := range l.parts {
		p.row = slices.Clone(p.row)
		o.parts = append(o.parts, p)
	}
	return o
}

// changed answers how many bytes of two lands are unlike.
func (l *land) changed(o *land) int {
	n := 0
	for i, p := range l.parts {
		for j, b := range p.row {
			if b != o.parts[i].row[j] {
				n++
			}
		}
	}
	return n
}

// shapes is which registers each operation of the chapter's table has, and "b", "w" or "j" for its number.
var shapes = []string{"", "", "", "Aw", "Aw", "AB", "ABC", "ABC", "ABC", "ABC", "ABC", "ABC", "ABC", "ABC", "ABC", "ABC", "ABC", "ABC", "ABb", "ABb", "ABb", "ABb", "j", "Aj", "Aj", "AB", ""}

// right tells whether four bytes are an instruction, by its shape.
func right(s []byte) bool {
	if int(s[0]) >= len(shapes) {
		return false
	}
	most := []byte{0, 0, 0}
	for i, sign := range shapes[s[0]] {
		switch sign {
		case 'A', 'B', 'C':
			most[i] = 15
		case 'b':
			most[2] = 255
		case 'w', 'j':
			most[1], most[2] = 255, 255
		}
	}
	return s[1] <= most[0] && s[2] <= most[1] && s[3] <= most[2]
}

// model does a step as the chapter tells it, byte by byte and with numbers that have no bound.
func model(st *api.State, l *land) int {
	code := l.span(st.Pc, 4, api.ToRun)
	if code == nil {
		return 3
	}
	s := []byte{*code[0], *code[1], *code[2], *code[3]}
	if !right(s) {
		return 4
	}
	next := wrapped(plus(st.Pc, 4))
	wide := int64(s[2]) + 256*int64(s[3])
	jump := wide
	if jump >= 32768 {
		jump -= 65536
	}
	to := wrapped(new(big.Int).Add(plus(next, 0), big.NewInt(4*jump)))
	switch op := s[0]; {
	case op == 0:
		return 2
	case op == 2:
		st.Pc = next
		return 1
	case op == 22, op == 23 && st.R[s[1]] == 0, op == 24 && st.R[s[1]] != 0:
		next = to
	case op == 25:
		st.R[s[1]], next = next, st.R[s[2]]
	case op == 26:
		next = st.R[15]
	case op >= 18 && op <= 21:
		if !modelReach(st, l, s) {
			return 3
		}
	case op == 3:
		st.R[s[1]] = uint64(wide)
	case op == 4:
		x := new(big.Int).Mul(plus(st.R[s[1]], 0), big.NewInt(65536))
		st.R[s[1]] = wrapped(x.Add(x, big.NewInt(wide)))
	case op == 5:
		st.R[s[1]] = st.R[s[2]]
	case op >= 6 && op <= 17:
		st.R[s[1]] = wrapped(modelResult(op, plus(st.R[s[2]], 0), plus(st.R[s[3]], 0)))
	}
	st.Pc = next
	return 0
}

// modelReach does load, keep, pull and push.
func modelReach(st *api.State, l *land, s []byte) bool {
	addr, n, need := wrapped(plus(st.R[s[2]], s[3])), 1, api.ToRead
	if s[0] >= 20 {
		n = 8
	}
	if s[0]%2 == 1 {
		need = api.ToWrite
	}
	list := l.span(addr, n, need)
	if list == nil {
		return false
	}
	x := plus(0, 0)
	for i, b := range list {
		if need == api.ToWrite {
			*b = byte(new(big.Int).Rsh(plus(st.R[s[1]], 0), uint(8*i)).Uint64() % 256)
		} else {
			x.Add(x, new(big.Int).Lsh(plus(uint64(*b), 0), uint(8*i)))
		}
	}
	if need == api.ToRead {
		st.R[s[1]] = wrapped(x)
	}
	return true
}

// modelResult does what takes two registers.
func modelResult(op byte, b, c *big.Int) *big.Int {
	x := new(big.Int)
	none := c.Sign() == 0
	far := c.Cmp(big.NewInt(64)) >= 0
	switch {
	case op == 6:
		return x.Add(b, c)
	case op == 7:
		return x.Sub(b, c)
	case op == 8:
		return x.Mul(b, c)
	case op == 9 && none:
		return plus(last, 0)
	case op == 9:
		return x.Div(b, c)
	case op == 10 && none:
		return b
	case op == 10:
		return x.Mod(b, c)
	case op == 11:
		return x.And(b, c)
	case op == 12:
		return x.Or(b, c)
	case op == 13:
		return x.Xor(b, c)
	case op == 14 && !far:
		return x.Lsh(b, uint(c.Uint64()))
	case op == 15 && !far:
		return x.Rsh(b, uint(c.Uint64()))
	case op == 16 && b.Cmp(c) < 0, op == 17 && b.Cmp(c) == 0:
		return big.NewInt(1)
	}
	return x
}

func plus(x uint64, y byte) *big.Int {
	return new(big.Int).Add(new(big.Int).SetUint64(x), big.NewInt(int64(y)))
}

// wrapped answers a number modulo 2^64.
func wrapped(x *big.Int) uint64 {
	return new(big.Int).Mod(x, new(big.Int).Lsh(big.NewInt(1), 64)).Uint64()
}

// dice is a row of numbers that look like chance, the same each time.
type dice uint64

func (d *dice) roll(n int) int {
	*d = *d*6364136223846793005 + 1442695040888963407
	return int(uint64(*d) >> 33 % uint64(n))
}

// number answers any number: often one at an end or a power of two, often one about those addresses.
func (d *dice) number(near ...uint64) uint64 {
	switch d.roll(6) {
	case 0:
		return uint64(1)<<d.roll(64) + uint64(d.roll(3)) - 1
	case 1:
		return uint64(d.roll(20)) - 10
	case 2, 3, 4:
		return near[d.roll(len(near))] + uint64(d.roll(300)) - 20
	}
	return uint64(d.roll(1<<31))<<33 ^ uint64(d.roll(1<<31))<<10 ^ uint64(d.roll(1<<10))
}

// code answers four bytes: mostly an instruction, sometimes one with a byte off, seldom any bytes.
func (d *dice) code() []byte {
	s := []byte{byte(d.roll(256)), byte(d.roll(256)), byte(d.roll(256)), byte(d.roll(256))}
	if d.roll(20) == 0 {
		return s
	}
	s = []byte{byte(d.roll(len(shapes))), 0, 0, 0}
	for i, sign := range shapes[s[0]] {
		switch sign {
		case 'A', 'B', 'C':
			s[i+1] = byte(d.roll(16))
		case 'b':
			s[3] = byte(d.roll(256))
		case 'w':
			s[2], s[3] = byte(d.roll(256)), byte(d.roll(256))
		case 'j':
			// Mostly not far, so that rows of steps go on.
			n := []int{d.roll(8) - 4, d.roll(8) - 4, d.roll(65536)}[d.roll(3)]
			s[2], s[3] = byte(n), byte(n>>8)
		}
	}
	if d.roll(20) == 0 {
		s[d.roll(4)] ^= 1 << d.roll(8)
	}
	return s
}
