package sha

import "math/bits"

// blockBytes is how many bytes are mixed in at once.
const blockBytes = 64

// block is that many bytes.
type block [blockBytes]byte

// wordBytes is how many bytes a word has.
const wordBytes = 4

// stateWords is how many words a sum has.
const stateWords = 8

// state is the words that all blocks so far have come to.
type state [stateWords]uint32

// steps is how many steps it takes to mix in a block.
const steps = 64

// roots has the word of each step: the first 32 bits behind the point of the cube roots of the first 64 primes.
var roots = [steps]uint32{
	0x428a2f98, 0x71374491, 0xb5c0fbcf, 0xe9b5dba5, 0x3956c25b, 0x59f111f1, 0x923f82a4, 0xab1c5ed5,
	0xd807aa98, 0x12835b01, 0x243185be, 0x550c7dc3, 0x72be5d74, 0x80deb1fe, 0x9bdc06a7, 0xc19bf174,
	0xe49b69c1, 0xefbe4786, 0x0fc19dc6, 0x240ca1cc, 0x2de92c6f, 0x4a7484aa, 0x5cb0a9dc, 0x76f988da,
	0x983e5152, 0xa831c66d, 0xb00327c8, 0xbf597fc7, 0xc6e00bf3, 0xd5a79147, 0x06ca6351, 0x14292967,
	0x27b70a85, 0x2e1b2138, 0x4d2c6dfc, 0x53380d13, 0x650a7354, 0x766a0abb, 0x81c2c92e, 0x92722c85,
	0xa2bfe8a1, 0xa81a664b, 0xc24b8b70, 0xc76c51a3, 0xd192e819, 0xd6990624, 0xf40e3585, 0x106aa070,
	0x19a4c116, 0x1e376c08, 0x2748774c, 0x34b0bcb5, 0x391c0cb3, 0x4ed8aa4a, 0x5b9cca4f, 0x682e6ff3,
	0x748f82ee, 0x78a5636f, 0x84c87814, 0x8cc70208, 0x90befffa, 0xa4506ceb, 0xbef9a3f7, 0xc67178f2,
}

// mix takes a block in.
func (s *state) mix(b *block) {
	w := spread(b)
	v := *s
	for i := range steps {
		first := v[7] + turned(v[4], 6, 11, 25) + chosen(v[4], v[5], v[6]) + roots[i] + w[i]
		second := turned(v[0], 2, 13, 22) + most(v[0], v[1], v[2])
		copy(v[1:], v[:])
		v[4] += first
		v[0] = first + second
	}
	for i := range v {
		s[i] += v[i]
	}
}

// spread answers the word that a block has for each step: first its own, then what comes of those ahead.
func spread(b *block) [steps]uint32 {
	var w [steps]uint32
	const own = blockBytes / wordBytes
	for i := range own {
		w[i] = word(b[wordBytes*i:])
	}
	for i := own; i < steps; i++ {
		w[i] = w[i-16] + shifted(w[i-15], 7, 18, 3) + w[i-7] + shifted(w[i-2], 17, 19, 10)
	}
	return w
}

// word answers what the first four bytes say, the highest first.
func word(b []byte) uint32 {
	return uint32(b[0])<<24 | uint32(b[1])<<16 | uint32(b[2])<<8 | uint32(b[3])
}

// turned mixes a word with itself, turned right by three numbers of bits.
func turned(x uint32, i, j, k int) uint32 {
	return bits.RotateLeft32(x, -i) ^ bits.RotateLeft32(x, -j) ^ bits.RotateLeft32(x, -k)
}

// shifted is as turned, but that what the third one moves out on the right is gone.
func shifted(x uint32, i, j, k int) uint32 {
	return bits.RotateLeft32(x, -i) ^ bits.RotateLeft32(x, -j) ^ x>>k
}

// chosen answers the bits of y where x has 1, those of z elsewhere.
func chosen(x, y, z uint32) uint32 { return x&y ^ ^x&z }

// most answers each bit as two at least of the three have it.
func most(x, y, z uint32) uint32 { return x&y ^ x&z ^ y&z }

// bytes answers the words, one behind the other, the highest byte first.
func (s *state) bytes() string {
	var out [stateWords * wordBytes]byte
	for i, x := range s {
		for j := range wordBytes {
			out[wordBytes*i+j] = byte(x >> (8 * (wordBytes - 1 - j)))
		}
	}
	return string(out[:])
}
