package sha

import "math/bits"

// countBytes is how many bytes a count is written as, of bytes or of bits.
const countBytes = 8

// lowFirst answers a count as eight bytes, the lowest first.
func lowFirst(x uint64) string {
	var b [countBytes]byte
	for i := range b {
		b[i] = byte(x >> (8 * i))
	}
	return string(b[:])
}

// highFirst answers a count as eight bytes, the highest first.
func highFirst(x uint64) string { return lowFirst(bits.ReverseBytes64(x)) }
