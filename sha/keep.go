package sha

import "gatehouse/api"

// mostRounds is how many rounds a stretch has at most; that a user's password may have fewer (api.MaxRounds) is for a layer above to ask.
const mostRounds = 1000

// What stands ahead of the bytes that are summed, so that no first sum is one of a later round.
const (
	firstSum = "\x00"
	laterSum = "\x01"
)

// Stretch: what a password is kept as.
func Stretch(salt, password string, rounds int) (string, api.Errno) {
	if rounds < 0 || rounds > mostRounds {
		return "", api.ErrArg
	}
	// The salt's length keeps apart what would be the same bytes, cut into salt and password elsewhere.
	d := sumOf(firstSum, lowFirst(uint64(len(salt))), salt, password)
	for range rounds {
		d = sumOf(laterSum, d)
	}
	return d, api.OK
}

// Same: the same bytes?
func Same(a, b string) bool {
	// No answer ahead of the end: how long it takes mustn't tell where they are unlike.
	unlike := len(a) ^ len(b)
	for i := range max(len(a), len(b)) {
		unlike |= int(at(a, i) ^ at(b, i))
	}
	return unlike == 0
}

// at answers a byte, 0 behind the end.
func at(s string, i int) byte {
	if i < len(s) {
		return s[i]
	}
	return 0
}
