package cpu

import (
	"gatehouse/api"
	"gatehouse/pages"
)

// How many bytes an instruction reads or writes.
const (
	oneByte   = 1
	wordBytes = 8
)

// load answers n bytes of a memory; false, if one can't be had. A memory that answers another length hasn't them either.
func load(m Memory, addr uint64, n, need int) (string, bool) {
	s, e := m.Load(addr, n, need)
	if e != api.OK || len(s) != n {
		return "", false
	}
	return s, true
}

// reach does what load, keep, pull and push do with the memory; false, if a byte can't be read or written.
func reach(st *api.State, m Memory, c api.Code) bool {
	addr := st.R[c.B] + uint64(c.N)
	n := oneByte
	if c.Op == api.OpPull || c.Op == api.OpPush {
		n = wordBytes
	}
	if c.Op == api.OpKeep || c.Op == api.OpPush {
		return m.Store(addr, lowBytes(st.R[c.A], n)) == api.OK
	}
	s, ok := load(m, addr, n, api.ToRead)
	if ok {
		st.R[c.A] = number(s)
	}
	return ok
}

// lowBytes answers the n lowest bytes of a number, the lowest first.
func lowBytes(x uint64, n int) string {
	row := make([]byte, n)
	for i := range row {
		row[i] = byte(x >> (8 * i))
	}
	return string(row)
}

// number answers the number that bytes are, the lowest first.
func number(s string) uint64 {
	x := uint64(0)
	for i := range len(s) {
		x |= uint64(s[i]) << (8 * i)
	}
	return x
}

// flat is a memory of just some bytes, the first one at the address 0, for all uses.
type flat struct {
	bytes *pages.Bytes
}

// within tells whether an address is one of the bytes', or the one behind them: others may be greater than any place.
func (f flat) within(addr uint64) bool { return addr <= uint64(f.bytes.Len()) }

// Load: n bytes; they may all be read and run.
func (f flat) Load(addr uint64, n, need int) (string, api.Errno) {
	if !f.within(addr) {
		return "", api.ErrFault
	}
	return f.bytes.Read(int(addr), n)
}

// Store: bytes that stand there from now on.
func (f flat) Store(addr uint64, s string) api.Errno {
	if !f.within(addr) {
		return api.ErrFault
	}
	return f.bytes.Write(int(addr), s)
}
