package isa_test

import (
	"fmt"
	"regexp"
	"strconv"
	"strings"

	"gatehouse/api"
)

// op is a row of the chapter's table, one operation each: its shape is a letter for each register, and for the number "b" (0 to 255), "w" (0 to 65535) or "j" (-32768 to 32767).
type op struct {
	op          int
	name, shape string
}

var table = []op{
	{0, "halt", ""}, {1, "nop", ""}, {2, "sys", ""}, {3, "set", "Aw"}, {4, "more", "Aw"}, {5, "move", "AB"},
	{6, "add", "ABC"}, {7, "sub", "ABC"}, {8, "mul", "ABC"}, {9, "div", "ABC"}, {10, "mod", "ABC"}, {11, "and", "ABC"},
	{12, "or", "ABC"}, {13, "xor", "ABC"}, {14, "shl", "ABC"}, {15, "shr", "ABC"}, {16, "less", "ABC"}, {17, "same", "ABC"},
	{18, "load", "ABb"}, {19, "keep", "ABb"}, {20, "pull", "ABb"}, {21, "push", "ABb"},
	{22, "go", "j"}, {23, "zero", "Aj"}, {24, "not", "Aj"}, {25, "call", "AB"}, {26, "back", ""},
}

// span is what a number may be in a shape: from 0 to 0, if it has none.
func span(shape string) (low, high int) {
	switch {
	case strings.Contains(shape, "b"):
		return 0, 255
	case strings.Contains(shape, "w"):
		return 0, 65535
	case strings.Contains(shape, "j"):
		return -32768, 32767
	}
	return 0, 0
}

// most is what a register may be in a shape.
func most(shape, register string) int {
	if strings.Contains(shape, register) {
		return 15
	}
	return 0
}

// isRight tells of an instruction what the chapter does.
func isRight(c api.Code) bool {
	if c.Op < 0 || c.Op > 26 {
		return false
	}
	shape := table[c.Op].shape
	low, high := span(shape)
	within := func(n, least, most int) bool { return least <= n && n <= most }
	return within(c.A, 0, most(shape, "A")) && within(c.B, 0, most(shape, "B")) && within(c.C, 0, most(shape, "C")) && within(c.N, low, high)
}

// bytesOf writes out the bytes of a right instruction.
func bytesOf(c api.Code) string {
	row := []byte{byte(c.Op), byte(c.A), byte(c.B), byte(c.C)}
	switch shape := table[c.Op].shape; {
	case strings.Contains(shape, "b"):
		row[3] = byte(c.N)
	case strings.ContainsAny(shape, "wj"):
		n := (c.N + 65536) % 65536
		row[2], row[3] = byte(n%256), byte(n/256)
	}
	return string(row)
}

// textOf writes out the text of a right instruction.
func textOf(c api.Code) string {
	shape := table[c.Op].shape
	s := table[c.Op].name
	for _, r := range []struct {
		letter string
		n      int
	}{{"A", c.A}, {"B", c.B}, {"C", c.C}} {
		if strings.Contains(shape, r.letter) {
			s += fmt.Sprintf(" r%d", r.n)
		}
	}
	if strings.ContainsAny(shape, "bwj") {
		s += fmt.Sprintf(" %d", c.N)
	}
	return s
}

var (
	form  = regexp.MustCompile(`\A([a-z]+)(?: r(\d+))?(?: r(\d+))?(?: r(\d+))?(?: (-?\d+))?\z`)
	plain = regexp.MustCompile(`\A(0|-?[1-9]\d{0,8})\z`)
	name  = regexp.MustCompile(`\A[a-z]{1,16}\z`)
	named = regexp.MustCompile(`\A(go|(?:zero|not) r(?:\d|1[0-5])) ([a-z]{1,16})\z`)
)

// parsed tells of a text whose instruction it is, by its signs alone.
func parsed(s string) (api.Code, bool) {
	m := form.FindStringSubmatch(s)
	if m == nil {
		return api.Code{}, false
	}
	for _, o := range table {
		if o.name != m[1] {
			continue
		}
		c := api.Code{Op: o.op}
		has := ""
		for i, f := range []*int{&c.A, &c.B, &c.C, &c.N} {
			if m[i+2] == "" {
				continue
			}
			if !plain.MatchString(m[i+2]) {
				return api.Code{}, false
			}
			*f, _ = strconv.Atoi(m[i+2])
			has += "ABCN"[i : i+1]
		}
		wanted := strings.NewReplacer("b", "N", "w", "N", "j", "N").Replace(o.shape)
		if has != wanted || !isRight(c) {
			return api.Code{}, false
		}
		return c, true
	}
	return api.Code{}, false
}

// built tells of a text what Build does.
func built(text string) (string, int, api.Errno) {
	lines := strings.Split(text, "\n")
	count := 0
	for _, l := range lines {
		if l != "" && l[len(l)-1] != ':' {
			count++
		}
	}
	if count > 1024 {
		return "", 0, api.ErrFull
	}
	places := map[string]int{}
	count = 0
	for i, l := range lines {
		_, isCode := parsed(l)
		short, isPlace := strings.CutSuffix(l, ":")
		_, twice := places[short]
		switch {
		case l == "":
		case isCode || named.MatchString(l):
			count++
		case isPlace && name.MatchString(short) && !twice:
			places[short] = count
		default:
			return "", i + 1, api.ErrForm
		}
	}
	out := ""
	for i, l := range lines {
		if m := named.FindStringSubmatch(l); m != nil {
			to, ok := places[m[2]]
			if !ok {
				return "", i + 1, api.ErrNone
			}
			l = fmt.Sprintf("%s %d", m[1], to-len(out)/4-1)
		}
		if c, ok := parsed(l); ok {
			out += bytesOf(c)
		}
	}
	return out, 0, api.OK
}

// dice is a row of numbers that look like chance, the same each time.
type dice uint64

func (d *dice) roll(n int) int {
	*d = *d*6364136223846793005 + 1442695040888963407
	return int(uint64(*d) >> 33 % uint64(n))
}

// code answers a right instruction.
func (d *dice) code() api.Code {
	o := table[d.roll(27)]
	low, high := span(o.shape)
	return api.Code{Op: o.op, A: d.roll(most(o.shape, "A") + 1), B: d.roll(most(o.shape, "B") + 1), C: d.roll(most(o.shape, "C") + 1), N: low + d.roll(high-low+1)}
}

// edges is right instructions: of each operation all whose fields are at an end, or one off it.
func edges() []api.Code {
	var r []api.Code
	for _, o := range table {
		low, high := span(o.shape)
		for _, a := range []int{0, 1, 15} {
			for _, b := range []int{0, 1, 15} {
				for _, c := range []int{0, 1, 15} {
					for _, n := range []int{low, low + 1, -1, 0, 1, 127, 128, 255, 256, high - 1, high} {
						if x := (api.Code{Op: o.op, A: a, B: b, C: c, N: n}); isRight(x) {
							r = append(r, x)
						}
					}
				}
			}
		}
	}
	return r
}
