package dir

import (
	"iter"

	"gatehouse/api"
)

// maxBytes is how many bytes a directory has at most.
const maxBytes = 4096

// wordBytes is how many bytes an object's number has.
const wordBytes = 8

// besides is what an entry has beside its name: how long that is, its kind, its number.
const besides = 1 + 1 + wordBytes

// width answers how many bytes an entry has.
func width(n api.Name) int { return len(n.Name) + besides }

// Encode: its bytes.
func Encode(l []api.Name) (string, api.Errno) {
	if !Right(l) {
		return "", api.ErrForm
	}
	var b []byte
	for _, n := range l {
		b = append(b, byte(len(n.Name)))
		b = append(b, n.Name...)
		b = append(b, byte(n.Kind))
		for i := range wordBytes {
			b = append(b, byte(n.Id>>(8*i)))
		}
	}
	return string(b), api.OK
}

// Decode: the directory of bytes.
func Decode(s string) ([]api.Name, api.Errno) {
	if len(s) > maxBytes { // no need to make a list of it first
		return nil, api.ErrForm
	}
	var l []api.Name
	for n, whole := range entries(s) {
		if !whole {
			return nil, api.ErrForm
		}
		l = append(l, n)
	}
	if !Right(l) {
		return nil, api.ErrForm
	}
	return l, api.OK
}

// entries goes through bytes entry by entry, whatever these say, and tells of each whether it is whole; one that isn't is the last.
func entries(s string) iter.Seq2[api.Name, bool] {
	return func(yield func(api.Name, bool) bool) {
		for rest := s; rest != ""; {
			n, whole := first(rest)
			if !yield(n, whole) || !whole {
				return
			}
			rest = rest[width(n):]
		}
	}
}

// first answers the entry that bytes begin with, and whether they have all of it. There is at least one byte.
func first(s string) (api.Name, bool) {
	long := int(s[0])
	if len(s) < long+besides {
		return api.Name{}, false
	}
	name, tail := s[1:1+long], s[1+long:]
	return api.Name{Name: name, Kind: int(tail[0]), Id: number(tail[1:])}, true
}

// number answers what eight bytes say; those with the highest bit are below 0, which no object's number is.
func number(s string) int {
	x := uint64(0)
	for i := range wordBytes {
		x |= uint64(s[i]) << (8 * i)
	}
	return int(x)
}
