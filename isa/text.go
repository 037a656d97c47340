package isa

import (
	"strconv"
	"strings"

	"gatehouse/api"
)

// Text: its text.
func Text(c api.Code) (string, api.Errno) {
	if !Right(c) {
		return "", api.ErrCode
	}
	row := []byte(names[c.Op])
	for _, w := range shapeOf(c.Op) {
		row = appendWord(row, c, w)
	}
	return string(row), api.OK
}

func appendWord(row []byte, c api.Code, w word) []byte {
	if w == noWord {
		return row
	}
	row = append(row, ' ')
	if isRegister(w) {
		row = append(row, 'r')
	}
	return strconv.AppendInt(row, int64(field(c, w)), 10)
}

// Parse: the instruction of a text.
func Parse(s string) (api.Code, api.Errno) {
	// No more parts than an instruction may have are told apart: what is too much shows below.
	parts := strings.SplitN(s, " ", 1+maxWords)
	c := api.Code{Op: opOf(parts[0])}
	for i, w := range shapeOf(c.Op) {
		if i+1 < len(parts) {
			c = with(c, w, number(parts[i+1]))
		}
	}
	// If s is a text at all, it is that of c: so whatever was misread, missing or too much shows here.
	if text, e := Text(c); e != api.OK || text != s {
		return api.Code{}, api.ErrForm
	}
	return c, api.OK
}

// opOf answers the operation of a name, or none.
func opOf(name string) int {
	for op := range len(names) {
		if names[op] == name {
			return op
		}
	}
	return -1
}

// number answers the number of a part, of a register or not; something, if there is none.
func number(part string) int {
	n, err := strconv.Atoi(strings.TrimPrefix(part, "r"))
	if err != nil {
		return 0
	}
	return n
}

// List: the texts of instructions.
func List(s string) ([]string, api.Errno) {
	if len(s)%codeBytes != 0 {
		return nil, api.ErrCode
	}
	var texts []string
	for ; s != ""; s = s[codeBytes:] {
		c, e := Decode(s[:codeBytes])
		if e != api.OK {
			return nil, e
		}
		// What was decoded is right, so it has a text.
		text, _ := Text(c)
		texts = append(texts, text)
	}
	return texts, api.OK
}
