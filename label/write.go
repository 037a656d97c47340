package label

import (
	"strconv"
	"strings"

	"gatehouse/api"
)

// What the bytes of a label take: its head (Def, and how many entries), a number, an entry.
const (
	headBytes   = 2
	numberBytes = 8
	entryBytes  = numberBytes + 1
)

// signs has the sign of each level, the lowest level first.
const signs = "*0123J"

// Bytes: the label as bytes.
func Bytes(l api.Label) string {
	row := []byte{byte(l.Def), byte(len(l.Cats))}
	for _, e := range l.Cats {
		for i := range numberBytes {
			row = append(row, byte(e.Cat>>(8*i)))
		}
		row = append(row, byte(e.Level))
	}
	return string(row)
}

// Read: the label that bytes are.
func Read(s string) (api.Label, api.Errno) {
	if len(s) < headBytes || len(s) != headBytes+entryBytes*int(s[1]) {
		return api.Label{}, api.ErrForm
	}
	l := api.Label{Def: int(s[0])}
	for rest := s[headBytes:]; rest != ""; rest = rest[entryBytes:] {
		e := api.Entry{Cat: number(rest[:numberBytes]), Level: int(rest[numberBytes])}
		l.Cats = append(l.Cats, e)
	}
	return right(l)
}

// number answers the number that eight bytes are, the lowest first.
func number(s string) int {
	n := 0
	for i := range len(s) {
		n |= int(s[i]) << (8 * i)
	}
	return n
}

// Text: the label as a text.
func Text(l api.Label) string {
	row := []byte{'{', sign(l.Def)}
	for _, e := range l.Cats {
		row = append(row, ' ')
		row = strconv.AppendInt(row, int64(e.Cat), 10)
		row = append(row, ':', sign(e.Level))
	}
	return string(append(row, '}'))
}

// Parse: the label that a text is.
func Parse(s string) (api.Label, api.Errno) {
	s, opens := strings.CutPrefix(s, "{")
	s, closes := strings.CutSuffix(s, "}")
	// One word more than a label may have is enough to tell that there are too many.
	words := strings.SplitN(s, " ", api.MaxCats+2)
	def, ok := parseLevel(words[0])
	if !opens || !closes || !ok {
		return api.Label{}, api.ErrForm
	}
	l := api.Label{Def: def}
	for _, w := range words[1:] {
		e, ok := parseEntry(w)
		if !ok {
			return api.Label{}, api.ErrForm
		}
		l.Cats = append(l.Cats, e)
	}
	return right(l)
}

func parseEntry(s string) (api.Entry, bool) {
	before, behind, _ := strings.Cut(s, ":")
	cat, isNumber := parseCat(before)
	level, isSign := parseLevel(behind)
	return api.Entry{Cat: cat, Level: level}, isNumber && isSign
}

// parseCat answers a category's number out of its digits; a nought ahead is refused, and so is what is above MaxId, ahead of any wrap-round.
func parseCat(s string) (int, bool) {
	n := 0
	for i := range len(s) {
		if s[i] < '0' || s[i] > '9' {
			return 0, false
		}
		digit := int(s[i] - '0')
		if n == 0 && digit == 0 || n > (api.MaxId-digit)/10 {
			return 0, false
		}
		n = 10*n + digit
	}
	return n, n > 0
}

func parseLevel(s string) (int, bool) {
	if len(s) != 1 {
		return 0, false
	}
	for level := range len(signs) {
		if signs[level] == s[0] {
			return level, true
		}
	}
	return 0, false
}

// sign answers something of any number, as a label that isn't right may have any.
func sign(level int) byte {
	if !isLevel(level) {
		return '?'
	}
	return signs[level]
}

// right refuses a label that can't be.
func right(l api.Label) (api.Label, api.Errno) {
	if !Right(l) {
		return api.Label{}, api.ErrForm
	}
	return l, api.OK
}
