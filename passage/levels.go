package passage

import (
	"slices"

	"gatehouse/api"
	"gatehouse/label"
)

// levels asks for the level at a category: what two labels make together may have more entries than a label can have, so it is asked, not made.
type levels func(cat int) int

// elsewhere stands, in the place of a category, for all those that no label names.
const elsewhere = 0

// greatest asks for the greatest level of the labels.
func greatest(labels ...api.Label) levels {
	return func(cat int) int {
		level := api.Star
		for _, l := range labels {
			level = max(level, label.At(l, cat))
		}
		return level
	}
}

// floor asks for the least level that one may have behind a gate: Star, where the thread or the gate owns the category.
func floor(t, g api.Label) levels {
	both := greatest(label.Up(t), label.Up(g))
	return func(cat int) int {
		if level := both(cat); level != api.High {
			return level
		}
		return api.Star
	}
}

// atMost: is the label, level by level, at most the greatest of the bounds?
func atMost(l api.Label, bounds ...api.Label) bool {
	return under(greatest(l), greatest(bounds...), slices.Concat(named(l), named(bounds...)))
}

// under: is the one at most the other, at these categories and elsewhere?
func under(low, high levels, cats []int) bool {
	above := func(cat int) bool { return low(cat) > high(cat) }
	return !above(elsewhere) && !slices.ContainsFunc(cats, above)
}

// named answers all categories that the labels have entries of.
func named(labels ...api.Label) []int {
	var cats []int
	for _, l := range labels {
		for _, e := range l.Cats {
			cats = append(cats, e.Cat)
		}
	}
	return cats
}

// names: has the label an entry of the category?
func names(l api.Label, cat int) bool { return slices.Contains(named(l), cat) }
