package isa

import (
	"iter"
	"strings"

	"gatehouse/api"
)

// What a program may have: lines of instructions, and bytes of a name.
const (
	maxLines = 1024
	maxName  = 16
)

// step is an instruction of a program, and the line that it stands on; its number is still open if it has a name.
type step struct {
	api.Code
	line int
	name string
}

// program is what was read of a text: its steps, and how many of them are ahead of each place.
type program struct {
	steps  []step
	places map[string]int
}

// Build: a program's bytes.
func Build(text string) (string, int, api.Errno) {
	if isCrowded(text) {
		return "", 0, api.ErrFull
	}
	p := program{places: map[string]int{}}
	for n, line := range lines(text) {
		if !p.read(n, line) {
			return "", n, api.ErrForm
		}
	}
	return p.bytes()
}

// lines tells the lines of a text, counted from 1 on.
func lines(text string) iter.Seq2[int, string] {
	return func(yield func(int, string) bool) {
		line, rest, more := strings.Cut(text, "\n")
		for n := 1; yield(n, line) && more; n++ {
			line, rest, more = strings.Cut(rest, "\n")
		}
	}
}

// isCrowded: are there too many lines that may be instructions? It is asked of all lines ahead of reading one, as that error comes first.
func isCrowded(text string) bool {
	count := 0
	for _, line := range lines(text) {
		if line != "" && !strings.HasSuffix(line, ":") {
			count++
		}
	}
	return count > maxLines
}

// read takes a line in; false, if it can't be one.
func (p *program) read(n int, line string) bool {
	if line == "" {
		return true
	}
	if name, ok := strings.CutSuffix(line, ":"); ok {
		return p.addPlace(name)
	}
	s, ok := parseStep(line)
	s.line = n
	p.steps = append(p.steps, s)
	return ok
}

func (p *program) addPlace(name string) bool {
	if _, ok := p.places[name]; ok || !isName(name) {
		return false
	}
	p.places[name] = len(p.steps)
	return true
}

// bytes answers what Build does, of a program all of whose lines were read.
func (p *program) bytes() (string, int, api.Errno) {
	var row []byte
	for i, s := range p.steps {
		if s.name != "" {
			to, ok := p.places[s.name]
			if !ok {
				return "", s.line, api.ErrNone
			}
			// The program is too short for a number that doesn't fit.
			s.N = to - (i + 1)
		}
		four := pack(s.Code)
		row = append(row, four[:]...)
	}
	return string(row), 0, api.OK
}

// parseStep answers the instruction of a line, whether its number or a name stands there.
func parseStep(line string) (step, bool) {
	blank := strings.LastIndexByte(line, ' ')
	name := line[blank+1:]
	if blank < 0 || !isName(name) {
		c, e := Parse(line)
		return step{Code: c}, e == api.OK
	}
	// But for its name such a line is like one with any number.
	c, e := Parse(line[:blank] + " 0")
	return step{Code: c, name: name}, e == api.OK && jumps(c.Op)
}

func jumps(op int) bool {
	for _, w := range shapeOf(op) {
		if w == wordJump {
			return true
		}
	}
	return false
}

func isName(s string) bool {
	if len(s) < 1 || len(s) > maxName {
		return false
	}
	for i := range len(s) {
		if s[i] < 'a' || s[i] > 'z' {
			return false
		}
	}
	return true
}
