package passage_test

import (
	"slices"
	"testing"

	"gatehouse/api"
	"gatehouse/label"
	"gatehouse/passage"
)

const (
	least   = -1 << 63
	highest = 1<<63 - 1
)

// dice tells the same row of numbers in each run.
type dice uint64

func (d *dice) roll(n int) int {
	*d = *d*6364136223846793005 + 1442695040888963407
	return int(uint64(*d) >> 33 % uint64(n))
}

func parse(t *testing.T, s string) api.Label {
	t.Helper()
	l, e := label.Parse(s)
	if e != api.OK {
		t.Fatal(s, e)
	}
	return l
}

// of writes a label out as it stands, right or not.
func of(def int, pairs ...int) api.Label {
	l := api.Label{Def: def}
	for i := 0; i+1 < len(pairs); i += 2 {
		l.Cats = append(l.Cats, api.Entry{Cat: pairs[i], Level: pairs[i+1]})
	}
	return l
}

// row is a label with n entries of one level, at the categories first, first+1 ..
func row(def, first, n, level int) api.Label {
	l := api.Label{Def: def}
	for i := range n {
		l.Cats = append(l.Cats, api.Entry{Cat: first + i, Level: level})
	}
	return l
}

func same(a, b api.Label) bool { return a.Def == b.Def && slices.Equal(a.Cats, b.Cats) }

// answers fails unless the call answered this label, or this error with nothing beside it.
func answers(t *testing.T, what string, got api.Label, e api.Errno, want api.Label, we api.Errno) {
	t.Helper()
	if we != api.OK {
		want = api.Label{}
	}
	if e != we || !same(got, want) {
		t.Errorf("%s: %v %d, want %v %d", what, got, e, want, we)
	}
}

func up(level int) int {
	if level == api.Star {
		return api.High
	}
	return level
}

// bottom is the floor's level where the thread and the gate have these.
func bottom(t, g int) int {
	level := max(up(t), up(g))
	if level == api.High {
		return api.Star
	}
	return level
}

func unplain(level int) bool { return level == api.High }

func unfree(level int) bool { return level == api.High || level == api.Star }

// rule is a call that answers an error alone, and what the document says of the levels that its labels have at one category.
type rule struct {
	name   string
	labels int
	wrong  func(x []int) bool // ErrArg
	barred func(x []int) bool // ErrLabel
	call   func(l []api.Label) api.Errno
}

func rules() []rule {
	return []rule{
		{"Make", 4,
			func(x []int) bool { return false },
			func(x []int) bool {
				t, c, box, l := x[0], x[1], x[2], x[3]
				return t > box || box > up(t) || t > l || l > c || box > max(up(l), api.L1)
			},
			func(l []api.Label) api.Errno { return passage.Make(l[0], l[1], l[2], l[3]) }},
		{"Lend", 4,
			func(x []int) bool { return unplain(x[2]) || unfree(x[3]) },
			func(x []int) bool { return x[0] > x[2] || x[2] > x[3] || x[3] > x[1] },
			func(l []api.Label) api.Errno { return passage.Lend(l[0], l[1], l[2], l[3]) }},
		{"Rise", 3,
			func(x []int) bool { return unplain(x[2]) },
			func(x []int) bool { return x[0] > x[2] || x[2] > x[1] },
			func(l []api.Label) api.Errno { return passage.Rise(l[0], l[1], l[2]) }},
		{"Clear", 3,
			func(x []int) bool { return unfree(x[2]) },
			func(x []int) bool { return x[0] > x[2] || x[2] > max(x[1], up(x[0])) },
			func(l []api.Label) api.Errno { return passage.Clear(l[0], l[1], l[2]) }},
		{"Enter", 6,
			func(x []int) bool { return unplain(x[4]) || unfree(x[5]) },
			func(x []int) bool {
				t, c, g, gc, want, wc := x[0], x[1], x[2], x[3], x[4], x[5]
				return t > gc || want < bottom(t, g) || want > wc || wc > max(c, gc)
			},
			func(l []api.Label) api.Errno {
				return passage.Enter(l[0], l[1], l[2], l[3], l[4], l[5])
			}},
	}
}

// tuple writes n as levels, one a label: all of them come by, if n goes from 0 on.
func tuple(n, labels int) []int {
	x := make([]int, labels)
	for i := range x {
		x[i], n = n%6, n/6
	}
	return x
}

func tuples(labels int) int {
	n := 1
	for range labels {
		n *= 6
	}
	return n
}

// column is the levels of some labels at one category (0: elsewhere).
type column struct {
	cat    int
	levels []int
}

// columns makes right labels by chance, written category by category: seldom a category at which the rule forbids anything, and no label with more than MaxCats entries.
func (d *dice) columns(r rule) []column {
	def := d.levels(r)
	table := []column{{0, def}}
	used := make([]int, r.labels)
	for cat := 1; cat <= 40; cat++ {
		x := d.levels(r)
		for i := range x {
			if d.roll(3) > 0 {
				x[i] = def[i]
			}
		}
		if d.roll(100) == 0 {
			x = tuple(d.roll(tuples(r.labels)), r.labels)
		} else if r.wrong(x) || r.barred(x) {
			continue
		}
		if !fits(x, def, used) {
			continue
		}
		for i := range x {
			if x[i] != def[i] {
				used[i]++
			}
		}
		table = append(table, column{cat, x})
	}
	return table
}

func fits(x, def, used []int) bool {
	for i := range x {
		if x[i] != def[i] && used[i] == api.MaxCats {
			return false
		}
	}
	return true
}

// levels is levels that the rule has nothing against.
func (d *dice) levels(r rule) []int {
	for {
		x := tuple(d.roll(tuples(r.labels)), r.labels)
		if !r.wrong(x) && !r.barred(x) {
			return x
		}
	}
}

// made is the labels that the columns tell of.
func made(table []column) []api.Label {
	var all []api.Label
	for i, def := range table[0].levels {
		l := api.Label{Def: def}
		for _, c := range table[1:] {
			if c.levels[i] != def {
				l.Cats = append(l.Cats, api.Entry{Cat: c.cat, Level: c.levels[i]})
			}
		}
		all = append(all, l)
	}
	return all
}

// says is what the document says of the labels that the columns tell of.
func (r rule) says(table []column) api.Errno {
	if slices.ContainsFunc(table, func(c column) bool { return r.wrong(c.levels) }) {
		return api.ErrArg
	}
	if slices.ContainsFunc(table, func(c column) bool { return r.barred(c.levels) }) {
		return api.ErrLabel
	}
	return api.OK
}

// wrong is labels that are not right, each for a reason of its own.
func wrong() []api.Label {
	return []api.Label{
		of(-1), of(6), of(highest), of(least),
		of(2, 5, -1), of(2, 5, 6), of(2, 5, highest), of(2, 5, least),
		of(2, 0, 4), of(2, -1, 4), of(2, api.MaxId+1, 4), of(2, least, 4), of(2, highest, 4),
		of(2, 5, 2), of(2, 5, 4, 5, 4), of(2, 5, 4, 5, 3), of(2, 6, 4, 5, 4),
		row(2, 1, 17, 4), row(2, 1, 300, 0), row(2, -20, 40, 4),
	}
}
