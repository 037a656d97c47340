package label_test

import (
	"slices"
	"testing"

	"gatehouse/api"
	"gatehouse/label"
)

// entries writes entries out as they stand: of each its category and its level.
func entries(pairs ...int) []api.Entry {
	var r []api.Entry
	for i := 0; i+1 < len(pairs); i += 2 {
		r = append(r, api.Entry{Cat: pairs[i], Level: pairs[i+1]})
	}
	return r
}

// of writes a label out as it stands, right or not.
func of(def int, pairs ...int) api.Label {
	return api.Label{Def: def, Cats: entries(pairs...)}
}

// row is n entries of one level, at the categories first, first+1 ..
func row(first, n, level int) []api.Entry {
	var r []api.Entry
	for i := range n {
		r = append(r, api.Entry{Cat: first + i, Level: level})
	}
	return r
}

func same(a, b api.Label) bool { return a.Def == b.Def && slices.Equal(a.Cats, b.Cats) }

// isZero: what stands beside an error.
func isZero(l api.Label) bool { return l.Def == 0 && len(l.Cats) == 0 }

// answers fails unless the call answered this label, or this error with nothing beside it.
func answers(t *testing.T, what string, got api.Label, e api.Errno, want api.Label, we api.Errno) {
	t.Helper()
	if we != api.OK {
		want = api.Label{}
	}
	if e != we || !same(got, want) {
		t.Errorf("%s: %v %d, want %v %d", what, got, e, want, we)
	}
}

// all is every right label that has entries at the categories 1 and MaxId alone: 6 levels elsewhere, 6 at each of the two.
func all() []api.Label {
	var r []api.Label
	for def := api.Star; def <= api.High; def++ {
		for x := api.Star; x <= api.High; x++ {
			for y := api.Star; y <= api.High; y++ {
				l := api.Label{Def: def}
				if x != def {
					l.Cats = append(l.Cats, api.Entry{Cat: 1, Level: x})
				}
				if y != def {
					l.Cats = append(l.Cats, api.Entry{Cat: api.MaxId, Level: y})
				}
				r = append(r, l)
			}
		}
	}
	return r
}

// places is where labels of all() may be unlike: the two categories, and one that none of them names.
func places() []int { return []int{1, 2, api.MaxId} }

// below is Leq, asked place by place.
func below(a, b api.Label) bool {
	for _, p := range places() {
		if label.At(a, p) > label.At(b, p) {
			return false
		}
	}
	return true
}

// wrong is labels that are not right, each for a reason of its own.
func wrong() []api.Label {
	return []api.Label{
		of(-1), of(6), of(1 << 62), of(-1 << 63),
		of(2, 5, -1), of(2, 5, 6), of(2, 5, 1<<62),
		of(2, 0, 4), of(2, -1, 4), of(2, api.MaxId+1, 4), of(2, -1<<63, 4), of(2, 1<<63-1, 4),
		of(2, 5, 2),
		of(2, 5, 4, 5, 4), of(2, 5, 4, 5, 3), of(2, 6, 4, 5, 4), of(2, 1, 4, 6, 4, 5, 4),
		{Def: 2, Cats: row(1, 17, 4)}, {Def: 2, Cats: row(1, 300, 4)}, {Def: 2, Cats: row(-20, 40, 4)},
	}
}
