// Package label is layer 1: see shared/doc/01-label.md.
package label

import (
	"cmp"
	"slices"

	"gatehouse/api"
)

// Right: can it be?
func Right(l api.Label) bool {
	if !isLevel(l.Def) || len(l.Cats) > api.MaxCats {
		return false
	}
	last := 0
	for _, e := range l.Cats {
		if !canBe(e) || e.Level == l.Def || e.Cat <= last {
			return false
		}
		last = e.Cat
	}
	return true
}

// Plain: right, without High.
func Plain(l api.Label) bool { return Right(l) && !has(l, api.High) }

// Free: plain, without Star.
func Free(l api.Label) bool { return Plain(l) && !has(l, api.Star) }

// Make: the right label that has these levels at these categories, and def elsewhere.
func Make(def int, cats ...api.Entry) (api.Label, api.Errno) {
	if !isLevel(def) || slices.ContainsFunc(cats, cannotBe) {
		return api.Label{}, api.ErrArg
	}
	// A copy is sorted: the row may be the caller's own.
	row := slices.Clone(cats)
	slices.SortFunc(row, func(a, b api.Entry) int { return cmp.Compare(a.Cat, b.Cat) })
	row = slices.Compact(row)
	// Entries that are alike are one by now, so a category that still stands twice has unlike levels.
	for i := range len(row) - 1 {
		if row[i].Cat == row[i+1].Cat {
			return api.Label{}, api.ErrForm
		}
	}
	return fit(short(def, row))
}

// At: the level at a category.
func At(l api.Label, cat int) int {
	for _, e := range l.Cats {
		if e.Cat == cat {
			return e.Level
		}
	}
	return l.Def
}

// With: another level at a category.
func With(l api.Label, cat, level int) (api.Label, api.Errno) {
	var row []api.Entry
	for _, e := range l.Cats {
		if e.Cat != cat {
			row = append(row, e)
		}
	}
	return Make(l.Def, append(row, api.Entry{Cat: cat, Level: level})...)
}

// Up: High for Star.
func Up(l api.Label) api.Label { return turn(l, api.Star, api.High) }

// Down: Star for High.
func Down(l api.Label) api.Label { return turn(l, api.High, api.Star) }

// turn answers the label with the level to wherever it had the level from.
func turn(l api.Label, from, to int) api.Label {
	other := func(level int) int {
		if level == from {
			return to
		}
		return level
	}
	row := make([]api.Entry, 0, len(l.Cats))
	for _, e := range l.Cats {
		row = append(row, api.Entry{Cat: e.Cat, Level: other(e.Level)})
	}
	return short(other(l.Def), row)
}

// short answers the label of a row of entries whose categories rise, without those that say no more than def does.
func short(def int, row []api.Entry) api.Label {
	l := api.Label{Def: def}
	for _, e := range row {
		if e.Level != def {
			l.Cats = append(l.Cats, e)
		}
	}
	return l
}

// fit refuses a label that has too many entries.
func fit(l api.Label) (api.Label, api.Errno) {
	if len(l.Cats) > api.MaxCats {
		return api.Label{}, api.ErrFull
	}
	return l, api.OK
}

func has(l api.Label, level int) bool {
	return l.Def == level || slices.ContainsFunc(l.Cats, func(e api.Entry) bool { return e.Level == level })
}

func isLevel(n int) bool { return api.Star <= n && n <= api.High }

func isCat(n int) bool { return 1 <= n && n <= api.MaxId }

func canBe(e api.Entry) bool { return isCat(e.Cat) && isLevel(e.Level) }

func cannotBe(e api.Entry) bool { return !canBe(e) }
