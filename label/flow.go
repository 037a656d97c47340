package label

import (
	"iter"

	"gatehouse/api"
)

// Leq: is it at most the other one?
func Leq(a, b api.Label) bool {
	for p := range pairs(a, b) {
		if p.a > p.b {
			return false
		}
	}
	return true
}

// Join: the greater levels.
func Join(a, b api.Label) (api.Label, api.Errno) {
	return mix(a, b, func(x, y int) int { return max(x, y) })
}

// Meet: the lesser levels.
func Meet(a, b api.Label) (api.Label, api.Errno) {
	return mix(a, b, func(x, y int) int { return min(x, y) })
}

// Sees: may one look?
func Sees(t, o api.Label) bool { return Leq(o, Up(t)) }

// Alters: may one change?
func Alters(t, o api.Label) bool { return Leq(t, o) && Sees(t, o) }

// elsewhere stands, in the place of a category, for all those that neither of two labels names.
const elsewhere = 0

// pair is the levels of two labels at one category.
type pair struct {
	cat, a, b int
}

// pairs tells the levels of two labels elsewhere, and then at each category that one of them names, by rising categories.
func pairs(a, b api.Label) iter.Seq[pair] {
	return func(yield func(pair) bool) {
		if !yield(pair{elsewhere, a.Def, b.Def}) {
			return
		}
		x, y := a.Cats, b.Cats
		for len(x) > 0 || len(y) > 0 {
			p := pair{cat: least(x, y)}
			p.a, x = take(x, p.cat, a.Def)
			p.b, y = take(y, p.cat, b.Def)
			if !yield(p) {
				return
			}
		}
	}
}

// least answers the lesser category of the two that stand first; one of the rows has entries.
func least(x, y []api.Entry) int {
	switch {
	case len(x) == 0:
		return y[0].Cat
	case len(y) == 0:
		return x[0].Cat
	}
	return min(x[0].Cat, y[0].Cat)
}

// take answers the level of the row's first entry and the row behind it, if that entry is the category's, else def and the row as it is.
func take(row []api.Entry, cat, def int) (int, []api.Entry) {
	if len(row) == 0 || row[0].Cat != cat {
		return def, row
	}
	return row[0].Level, row[1:]
}

// mix answers the label whose level is, everywhere, what the mixer says of the two labels' levels.
func mix(a, b api.Label, mixer func(x, y int) int) (api.Label, api.Errno) {
	var def int
	var row []api.Entry
	for p := range pairs(a, b) {
		level := mixer(p.a, p.b)
		if p.cat == elsewhere {
			def = level
		} else {
			row = append(row, api.Entry{Cat: p.cat, Level: level})
		}
	}
	return fit(short(def, row))
}
