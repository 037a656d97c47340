package view_test

import (
	"slices"
	"testing"

	"gatehouse/api"
	"gatehouse/label"
)

const (
	least   = -1 << 63
	highest = 1<<63 - 1
)

// of answers the label of a text.
func of(s string) api.Label {
	l, e := label.Parse(s)
	if e != api.OK {
		panic(s)
	}
	return l
}

// at names an entry of a container.
func at(in, id int) api.Ref { return api.Ref{In: in, Id: id} }

// object answers one of a number, a kind and a label, with a list.
func object(id, kind int, l string, list ...int) api.Object {
	return api.Object{Info: api.Info{Id: id, Kind: kind, Label: of(l)}, List: list}
}

// box answers a container {1}.
func box(id int, list ...int) api.Object { return object(id, api.Container, "{1}", list...) }

// places is where labels of all() may be unlike: two categories, and one that none of them names.
func places() []int { return []int{1, 2, api.MaxId} }

// all is every label that has entries at the categories 1 and MaxId alone, with levels from the lowest to L3.
func all(lowest int) []api.Label {
	var list []api.Label
	for def := lowest; def <= api.L3; def++ {
		for x := lowest; x <= api.L3; x++ {
			for y := lowest; y <= api.L3; y++ {
				l, _ := label.Make(def, api.Entry{Cat: 1, Level: x}, api.Entry{Cat: api.MaxId, Level: y})
				list = append(list, l)
			}
		}
	}
	return list
}

// observers is all free labels of all().
func observers() []api.Label { return all(api.L0) }

// notPlain is labels that can't be an object's, each for a reason of its own.
func notPlain() []api.Label {
	long := api.Label{Def: api.L1}
	for i := range 17 {
		long.Cats = append(long.Cats, api.Entry{Cat: 1 + i, Level: api.L0})
	}
	return []api.Label{
		of("{J}"), of("{1 5:J}"), {Def: -1}, {Def: 6}, {Def: least}, {Def: highest}, long,
		{Def: api.L1, Cats: []api.Entry{{Cat: 5, Level: api.L1}}}, {Def: api.L1, Cats: []api.Entry{{Cat: 0, Level: api.L0}}},
		{Def: api.L1, Cats: []api.Entry{{Cat: api.MaxId + 1, Level: api.L0}}}, {Def: api.L1, Cats: []api.Entry{{Cat: 5, Level: -1}}},
		{Def: api.L1, Cats: []api.Entry{{Cat: 5, Level: api.L0}, {Cat: 5, Level: api.L0}}}, {Def: api.L1, Cats: []api.Entry{{Cat: 6, Level: api.L0}, {Cat: 5, Level: api.L0}}},
	}
}

// notFree is labels that can't be an observer's.
func notFree() []api.Label { return append(notPlain(), of("{*}"), of("{3 5:*}"), of("{* 5:3}")) }

// low and owner are what the chapter says, asked category by category; of labels that are at most unlike at places().
func low(l, o api.Label) bool {
	for _, cat := range places() {
		level, bound := label.At(o, cat), label.At(l, cat)
		if level > bound || level == api.Star && bound != api.L3 {
			return false
		}
	}
	return true
}

func owner(l api.Label, o api.Object) bool {
	for _, cat := range places() {
		if label.At(o.Label, cat) == api.Star && label.At(l, cat) < api.L3 {
			return o.Kind == api.Thread || o.Kind == api.Gate
		}
	}
	return false
}

// firsts answers the dump without the objects that don't count.
func firsts(d []api.Object) []api.Object {
	var list []api.Object
	for _, o := range d {
		if !slices.ContainsFunc(list, func(p api.Object) bool { return p.Id == o.Id }) {
			list = append(list, o)
		}
	}
	return list
}

// visible is what the chapter says, by going through all objects until no more come; rising.
func visible(d []api.Object, root int, l api.Label) []int {
	var ids []int
	d = firsts(d)
	isEntry := func(id int) bool {
		return slices.ContainsFunc(d, func(c api.Object) bool {
			return c.Kind == api.Container && slices.Contains(ids, c.Id) && slices.Contains(c.List, id)
		})
	}
	for more := true; more; {
		more = false
		for _, o := range d {
			if !slices.Contains(ids, o.Id) && label.Free(l) && label.Plain(o.Label) && low(l, o.Label) && (o.Id == root || isEntry(o.Id)) {
				ids, more = append(ids, o.Id), true
			}
		}
	}
	slices.Sort(ids)
	return ids
}

// equal fails unless a list is as it ought to be; nil and empty ones are the same.
func equal(t *testing.T, what any, got, want []int) {
	t.Helper()
	if !slices.Equal(got, want) {
		t.Errorf("%v: %v, not %v", what, got, want)
	}
}

// dice is a row of numbers that look like chance, the same each time.
type dice uint64

func (d *dice) roll(n int) int {
	*d = *d*6364136223846793005 + 1442695040888963407
	return int(uint64(*d) >> 33 % uint64(n))
}

// pick answers one of a few.
func pick[T any](d *dice, some ...T) T { return some[d.roll(len(some))] }

// number answers one of few numbers, seldom an end.
func (d *dice) number() int {
	if d.roll(12) == 0 {
		return pick(d, least, -1, 0, api.MaxId, highest)
	}
	return 1 + d.roll(12)
}

// some answers fewer than n, none at times.
func some[T any](d *dice, n int, make func() T) []T {
	var list []T
	for range d.roll(n) {
		list = append(list, make())
	}
	return list
}

// label answers one of all(), seldom one that isn't plain; mostly one that many observers see.
func (d *dice) label() api.Label {
	switch d.roll(10) {
	case 0:
		return pick(d, notPlain()...)
	case 1, 2, 3:
		return pick(d, all(api.Star)...)
	}
	return pick(d, of("{1}"), of("{0}"), of("{1 1:3}"), of("{1 1:0}"), of("{1 1:*}"), of("{2}"))
}

// object answers an object that has something of every field.
func (d *dice) object() api.Object {
	number := func() int { return d.number() }
	o := api.Object{Info: api.Info{Id: d.number(), Kind: pick(d, 1, 1, 1, d.roll(8)), Quota: d.number(), Used: d.number(), Links: d.number(), Label: d.label()}}
	o.List, o.Alerts = some(d, 6, number), some(d, 3, number)
	o.Maps = some(d, 3, func() api.Map { return api.Map{At: d.number(), Id: d.number(), Run: d.roll(2) > 0} })
	o.Bytes, o.Heard, o.Out = pick(d, "", "a", "ab\x00"), pick(d, "", "h"), pick(d, "", "o")
	o.Clear, o.Space, o.Entry = d.label(), at(d.number(), d.number()), uint64(d.number())
	o.State.Pc, o.State.R[15] = uint64(d.number()), uint64(d.number())
	o.Does, o.Seg, o.Off = d.number(), d.number(), d.number()
	return o
}

// dump answers a dump of whatever objects, with the root it is asked from: numbers in no order, some of them twice, containers that hold each other, lists of what is no container.
func (d *dice) dump() ([]api.Object, int) {
	list := some(d, 25, d.object)
	root := 1
	if d.roll(5) == 0 {
		root = d.number()
	}
	if d.roll(8) > 0 { // so that mostly something is visible
		o := d.object()
		o.Id, o.Kind, o.Label = root, api.Container, of("{0}")
		list = slices.Insert(list, d.roll(1+len(list)/4), o)
	}
	return list, root
}
