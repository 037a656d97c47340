package ask

import "gatehouse/api"

// Word is how many bytes a number has in a segment.
const Word = 8

// Numbers reads as many numbers as the list has room for, each of eight bytes, the lowest first; the n-th of the segment, from 0 on, comes first. Beside an error the list is as it was.
func (c Caller) Numbers(r api.Ref, n int, list []int) api.Errno {
	s, e := c.Read(r, Word*n, Word*len(list))
	if e != api.OK {
		return e
	}
	for i := range list {
		list[i] = number(s[Word*i : Word*i+Word])
	}
	return api.OK
}

// SetNumbers writes numbers; the first of them is the n-th of the segment, from 0 on.
func (c Caller) SetNumbers(r api.Ref, n int, list ...int) api.Errno {
	var s []byte
	for _, x := range list {
		s = append(s, bytes(x)...)
	}
	return c.Write(r, Word*n, string(s))
}

// number answers the number of eight bytes.
func number(s string) int {
	var x uint64
	for i := range Word {
		x |= uint64(s[i]) << (8 * i)
	}
	return int(x)
}

// bytes answers the eight bytes of a number.
func bytes(x int) []byte {
	s := make([]byte, Word)
	for i := range s {
		s[i] = byte(uint64(x) >> (8 * i))
	}
	return s
}
