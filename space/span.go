package space

import "gatehouse/api"

// mostBytes is how many bytes a span may have: those of a whole segment.
const mostBytes = api.PageSize * api.MaxPages

// Find: where a byte stands.
func Find(l []api.Map, addr uint64, need int) ([]api.Piece, api.Errno) {
	return Span(l, addr, 1, need)
}

// Span: where bytes stand.
func Span(l []api.Map, addr uint64, n, need int) ([]api.Piece, api.Errno) {
	if !Right(l) || n < 1 || n > mostBytes || need < api.ToRead || need > api.ToRun {
		return nil, api.ErrArg
	}
	var list []api.Piece
	for n > 0 {
		m, ok := mapOf(l, addr)
		if !ok || !serves(m, need) {
			return nil, api.ErrFault
		}
		p := pieceOf(m, addr, n)
		list = append(list, p)
		// What is mapped ends far below the last address: behind a piece, the address can't have wrapped.
		addr += uint64(p.N)
		n -= p.N
	}
	return list, api.OK
}

// mapOf answers the mapping that an address is in.
func mapOf(l []api.Map, addr uint64) (api.Map, bool) {
	page := addr / api.PageSize
	for _, m := range l {
		if uint64(m.At) <= page && page < uint64(end(m)) {
			return m, true
		}
	}
	return api.Map{}, false
}

// serves tells whether a mapping may be used so.
func serves(m api.Map, need int) bool {
	switch need {
	case api.ToWrite:
		return m.Write
	case api.ToRun:
		return m.Run
	}
	return true
}

// pieceOf answers where the bytes from an address of the mapping on stand, as many of n as are in it.
func pieceOf(m api.Map, addr uint64, n int) api.Piece {
	in := int(addr) - m.At*api.PageSize
	return api.Piece{In: m.In, Id: m.Id, Off: m.From*api.PageSize + in, N: min(n, m.Pages*api.PageSize-in)}
}
