package mach

import (
	"gatehouse/api"
	"gatehouse/kern"
)

// memory is what the kernel lets a thread have of addresses.
type memory struct {
	kernel *kern.Kernel
	thread int
}

// Load: n bytes from an address on.
func (m memory) Load(addr uint64, n, need int) (string, api.Errno) {
	return m.kernel.Load(m.thread, addr, n, need)
}

// Store: bytes that stand there from now on.
func (m memory) Store(addr uint64, s string) api.Errno {
	return m.kernel.Store(m.thread, addr, s)
}

// text answers n bytes that may be read; none stand at any address.
func (m memory) text(addr uint64, n int) (string, api.Errno) {
	if n == 0 {
		return "", api.OK
	}
	return m.Load(addr, n, api.ToRead)
}

// takes tells whether n bytes can be stored. Those that stand there are stored anew, as that changes nothing: what may be written may be read, too.
func (m memory) takes(addr uint64, n int) api.Errno {
	s, e := m.text(addr, n)
	if e != api.OK {
		return e
	}
	return m.Store(addr, s)
}
