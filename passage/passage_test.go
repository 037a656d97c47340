package passage_test

import (
	"slices"
	"testing"

	"gatehouse/api"
	"gatehouse/label"
	"gatehouse/passage"
)

// said is a rule's labels as texts, and what it answers.
type said struct {
	labels []string
	want   api.Errno
}

func asks(t *testing.T, name string, rows []said) {
	t.Helper()
	all := rules()
	r := all[slices.IndexFunc(all, func(r rule) bool { return r.name == name })]
	for _, x := range rows {
		var l []api.Label
		for _, s := range x.labels {
			l = append(l, parse(t, s))
		}
		if e := r.call(l); e != x.want {
			t.Error(name, x.labels, e, x.want)
		}
	}
}

func TestMake(t *testing.T) {
	asks(t, "Make", []said{
		{[]string{"{1 5:*}", "{3}", "{1}", "{1 5:3}"}, api.OK},
		{[]string{"{1 5:*}", "{3}", "{1}", "{0}"}, api.ErrLabel},
		{[]string{"{1 7:3}", "{3}", "{1}", "{1 7:3}"}, api.ErrLabel},
		{[]string{"{1}", "{2}", "{1}", "{1}"}, api.OK},
		{[]string{"{1}", "{2}", "{1}", "{2}"}, api.OK},
		{[]string{"{1}", "{2}", "{1}", "{3}"}, api.ErrLabel},
		// Whoever may not look into the container may make nothing in it.
		{[]string{"{1}", "{3}", "{1 7:3}", "{1 7:3}"}, api.ErrLabel},
		// Level L0 may lie in {1}, not in what is above.
		{[]string{"{1 5:*}", "{3}", "{1}", "{1 5:0}"}, api.OK},
		{[]string{"{1 5:*}", "{3}", "{1 5:2}", "{1 5:0}"}, api.ErrLabel},
		{[]string{"{1 5:*}", "{3}", "{1 5:3}", "{1 5:2}"}, api.ErrLabel},
		{[]string{"{1 5:*}", "{3}", "{1 5:3}", "{1 5:3}"}, api.OK},
		{[]string{"{1 5:*}", "{3}", "{1 5:3}", "{1 5:*}"}, api.OK},
		{[]string{"{0}", "{3}", "{0}", "{0}"}, api.OK},
	})
}

func TestLend(t *testing.T) {
	asks(t, "Lend", []said{
		{[]string{"{1 5:*}", "{2 5:3}", "{1 5:*}", "{2 5:3}"}, api.OK},
		{[]string{"{1 5:*}", "{2 5:3}", "{1 5:3}", "{2 5:3}"}, api.OK},
		{[]string{"{1 5:*}", "{2}", "{1 5:*}", "{2 5:3}"}, api.ErrLabel},
		{[]string{"{1 5:3}", "{2 5:3}", "{1 5:*}", "{2 5:3}"}, api.ErrLabel},
		{[]string{"{1}", "{3}", "{2}", "{1}"}, api.ErrLabel},
		{[]string{"{1}", "{3}", "{2}", "{2}"}, api.OK},
		{[]string{"{1}", "{3}", "{J}", "{3}"}, api.ErrArg},
		{[]string{"{1}", "{3}", "{1 5:J}", "{3}"}, api.ErrArg},
		{[]string{"{1}", "{3}", "{1}", "{3 5:*}"}, api.ErrArg},
		{[]string{"{1}", "{3}", "{1}", "{J}"}, api.ErrArg},
		// ErrArg is named ahead of ErrLabel.
		{[]string{"{3}", "{1}", "{2}", "{*}"}, api.ErrArg},
	})
}

func TestRise(t *testing.T) {
	asks(t, "Rise", []said{
		{[]string{"{1}", "{2}", "{1}"}, api.OK},
		{[]string{"{1}", "{2}", "{2}"}, api.OK},
		{[]string{"{1}", "{2}", "{3}"}, api.ErrLabel},
		{[]string{"{1}", "{2}", "{0}"}, api.ErrLabel},
		{[]string{"{1 5:*}", "{2}", "{1}"}, api.OK},
		{[]string{"{1}", "{2}", "{1 5:*}"}, api.ErrLabel},
		{[]string{"{1 5:*}", "{2 5:3}", "{1 5:3}"}, api.OK},
		{[]string{"{1 5:*}", "{2}", "{1 5:3}"}, api.ErrLabel},
		{[]string{"{1}", "{2}", "{1 5:J}"}, api.ErrArg},
		{[]string{"{1}", "{J}", "{J}"}, api.ErrArg},
	})
}

func TestClear(t *testing.T) {
	asks(t, "Clear", []said{
		{[]string{"{1 5:*}", "{2}", "{2 5:3}"}, api.OK},
		{[]string{"{1}", "{2}", "{2 5:3}"}, api.ErrLabel},
		{[]string{"{1}", "{2}", "{1}"}, api.OK},
		{[]string{"{1}", "{2}", "{2}"}, api.OK},
		{[]string{"{1}", "{2}", "{0}"}, api.ErrLabel},
		{[]string{"{1 5:3}", "{3}", "{3 5:2}"}, api.ErrLabel},
		// What it has as its label it may have as its clearance.
		{[]string{"{1 5:3}", "{2}", "{2 5:3}"}, api.OK},
		{[]string{"{1}", "{2}", "{2 5:*}"}, api.ErrArg},
		{[]string{"{1}", "{2}", "{2 5:J}"}, api.ErrArg},
		{[]string{"{*}", "{0}", "{*}"}, api.ErrArg},
	})
}

func TestEnter(t *testing.T) {
	asks(t, "Enter", []said{
		{[]string{"{1}", "{2}", "{1 5:*}", "{2}", "{1 5:*}", "{2}"}, api.OK},
		{[]string{"{1}", "{2}", "{1 5:*}", "{2}", "{1}", "{2}"}, api.OK},
		{[]string{"{1 7:3}", "{3}", "{1 5:*}", "{2}", "{1 5:* 7:3}", "{3}"}, api.ErrLabel},
		{[]string{"{1 7:3}", "{3}", "{1 5:*}", "{3}", "{1 5:*}", "{3}"}, api.ErrLabel},
		{[]string{"{1 7:3}", "{3}", "{1 5:*}", "{3}", "{1 5:* 7:3}", "{3}"}, api.OK},
		// Who owns the category behind the gate may leave its taint there.
		{[]string{"{1 7:3}", "{3}", "{1 7:*}", "{3}", "{1}", "{3}"}, api.OK},
		{[]string{"{1 7:3}", "{3}", "{1 7:*}", "{3}", "{1 7:*}", "{3}"}, api.OK},
		{[]string{"{1 7:*}", "{3}", "{1 7:3}", "{3}", "{1}", "{3}"}, api.OK},
		// The gate taints whoever goes through.
		{[]string{"{1}", "{3}", "{1 7:3}", "{3}", "{1}", "{3}"}, api.ErrLabel},
		{[]string{"{1}", "{3}", "{1 7:3}", "{3}", "{1 7:3}", "{3}"}, api.OK},
		{[]string{"{1}", "{3}", "{2}", "{3}", "{1}", "{3}"}, api.ErrLabel},
		// The clearances bound it together, level by level.
		{[]string{"{1}", "{2 5:3}", "{1}", "{2 6:3}", "{1 5:3 6:3}", "{2 5:3 6:3}"}, api.OK},
		{[]string{"{1}", "{2 5:3}", "{1}", "{2 6:3}", "{1}", "{2 7:3}"}, api.ErrLabel},
		{[]string{"{1}", "{2 5:3}", "{1}", "{2 6:3}", "{1 5:3}", "{2}"}, api.ErrLabel},
		{[]string{"{1}", "{2}", "{1}", "{2}", "{1}", "{3}"}, api.ErrLabel},
		{[]string{"{1}", "{2}", "{1}", "{2}", "{1}", "{1 5:*}"}, api.ErrArg},
		{[]string{"{1}", "{2}", "{1}", "{2}", "{1 5:J}", "{2}"}, api.ErrArg},
		{[]string{"{3}", "{0}", "{1}", "{0}", "{J}", "{2}"}, api.ErrArg},
	})
}

// Behind many entries each label is in order, but what two make together has more than a label can have.
func TestBoundsOfAnyLength(t *testing.T) {
	c, gc := row(api.L2, 1, 16, api.L3), row(api.L2, 101, 16, api.L3)
	plain := of(api.L1)
	if e := passage.Enter(plain, c, plain, gc, row(api.L1, 1, 16, api.L3), c); e != api.OK {
		t.Error("Enter with its own clearance", e)
	}
	wide := row(api.L2, 93, 16, api.L3)
	if e := passage.Enter(plain, c, plain, gc, plain, wide); e != api.ErrLabel {
		t.Error("Enter beyond both clearances", e)
	}
	if e := passage.Enter(plain, c, plain, gc, plain, of(api.L2, 16, api.L3, 101, api.L3)); e != api.OK {
		t.Error("Enter between both clearances", e)
	}
	tainted, owner := row(api.L1, 1, 16, api.L3), row(api.L1, 101, 16, api.Star)
	if e := passage.Enter(tainted, of(api.L3), owner, of(api.L3), tainted, of(api.L3)); e != api.OK {
		t.Error("Enter above a floor that no label has", e)
	}
	if e := passage.Enter(tainted, of(api.L3), owner, of(api.L3), row(api.L1, 2, 16, api.L3), of(api.L3)); e != api.ErrLabel {
		t.Error("Enter below a floor that no label has", e)
	}
	if e := passage.Clear(owner, c, of(api.L2, 16, api.L3, 116, api.L3)); e != api.OK {
		t.Error("Clear by what is owned and what is cleared", e)
	}
	if e := passage.Clear(owner, c, of(api.L2, 16, api.L3, 117, api.L3)); e != api.ErrLabel {
		t.Error("Clear beyond both", e)
	}
}

// What is elsewhere and at each level alone: all that there is.
func TestAllLevels(t *testing.T) {
	for _, r := range rules() {
		for n := range tuples(r.labels) {
			table := []column{{0, tuple(n, r.labels)}}
			if got, want := r.call(made(table)), r.says(table); got != want {
				t.Fatal(r.name, table, got, want)
			}
		}
	}
}

func TestManyCategories(t *testing.T) {
	d := dice(7)
	for _, r := range rules() {
		seen := map[api.Errno]int{}
		for range 6000 {
			table := d.columns(r)
			got, want := r.call(made(table)), r.says(table)
			if got != want {
				t.Fatal(r.name, made(table), got, want)
			}
			seen[got]++
		}
		if seen[api.OK] < 500 || seen[api.ErrLabel] < 500 || r.name != "Make" && seen[api.ErrArg] < 200 {
			t.Error("too few of one kind", r.name, seen)
		}
	}
}

func TestOwn(t *testing.T) {
	for _, x := range []struct {
		t, c string
		cat  int
		a, b string
		want api.Errno
	}{
		{"{1}", "{2}", 9, "{1 9:*}", "{2 9:3}", api.OK},
		{"{1 5:* 20:3}", "{2 5:3}", 9, "{1 5:* 9:* 20:3}", "{2 5:3 9:3}", api.OK},
		{"{1}", "{2}", 1, "{1 1:*}", "{2 1:3}", api.OK},
		{"{1}", "{2}", api.MaxId, "{1 2305843009213693951:*}", "{2 2305843009213693951:3}", api.OK},
		{"{1}", "{2}", 0, "", "", api.ErrArg},
		{"{1}", "{2}", -1, "", "", api.ErrArg},
		{"{1}", "{2}", least, "", "", api.ErrArg},
		{"{1}", "{2}", api.MaxId + 1, "", "", api.ErrArg},
		{"{1}", "{2}", highest, "", "", api.ErrArg},
		{"{1 9:*}", "{2 9:3}", 9, "", "", api.ErrId},
		{"{1 9:3}", "{2}", 9, "", "", api.ErrId},
		{"{1}", "{2 9:0}", 9, "", "", api.ErrId},
		// A level that is there everywhere needs no entry.
		{"{*}", "{3}", 9, "{*}", "{3}", api.OK},
		{"{* 5:1}", "{3 5:1}", 9, "{* 5:1}", "{3 5:1}", api.OK},
	} {
		a, b, e := passage.Own(parse(t, x.t), parse(t, x.c), x.cat)
		var wa, wb api.Label
		if x.want == api.OK {
			wa, wb = parse(t, x.a), parse(t, x.b)
		}
		if e != x.want || !same(a, wa) || !same(b, wb) {
			t.Error(x, a, b, e)
		}
	}
}

func TestOwnFull(t *testing.T) {
	full, room := row(api.L1, 1, 16, api.L3), row(api.L1, 1, 15, api.L3)
	for _, x := range []struct {
		t, c api.Label
		cat  int
		want api.Errno
	}{
		{room, room, 20, api.OK},
		{full, room, 20, api.ErrFull},
		{room, full, 20, api.ErrFull},
		{full, full, 20, api.ErrFull},
		{full, full, 16, api.ErrId},
		{room, full, 16, api.ErrId},
		{full, room, 16, api.ErrId},
		{full, full, 0, api.ErrArg},
		// No entry comes to it, so it isn't too many.
		{row(api.Star, 1, 16, api.L1), row(api.L3, 1, 16, api.L1), 20, api.OK},
		{row(api.Star, 1, 16, api.L1), row(api.L2, 1, 16, api.L1), 20, api.ErrFull},
	} {
		a, b, e := passage.Own(x.t, x.c, x.cat)
		if e != x.want {
			t.Error(x, e)
		}
		if e != api.OK && (!same(a, api.Label{}) || !same(b, api.Label{})) {
			t.Error("beside an error", a, b)
		}
		if e == api.OK && (!label.Right(a) || !label.Right(b) || label.At(a, x.cat) != api.Star || label.At(b, x.cat) != api.L3) {
			t.Error(x, a, b)
		}
	}
}

func TestFloor(t *testing.T) {
	for _, x := range []struct{ t, g, want string }{
		{"{1}", "{1 5:*}", "{1 5:*}"},
		{"{1 7:3}", "{1 5:*}", "{1 5:* 7:3}"},
		{"{1 7:3}", "{1 7:*}", "{1 7:*}"},
		{"{1 7:*}", "{1 7:3}", "{1 7:*}"},
		{"{1 7:0}", "{1}", "{1}"},
		{"{1 7:0}", "{1 7:0}", "{1 7:0}"},
		{"{1 7:0}", "{2}", "{2}"},
		{"{1 5:2 7:3}", "{2 6:3 7:1}", "{2 6:3 7:3}"},
		{"{*}", "{3 5:2}", "{*}"},
		{"{* 5:1}", "{3 5:2}", "{* 5:2}"},
		{"{1}", "{1}", "{1}"},
	} {
		got, e := passage.Floor(parse(t, x.t), parse(t, x.g))
		answers(t, x.t+x.g, got, e, parse(t, x.want), api.OK)
	}
}

func TestFloorFull(t *testing.T) {
	eight, nine := row(api.L1, 101, 8, api.L3), row(api.L1, 201, 9, api.Star)
	got, e := passage.Floor(eight, row(api.L1, 201, 8, api.Star))
	want := row(api.L1, 101, 8, api.L3)
	want.Cats = append(want.Cats, row(api.L1, 201, 8, api.Star).Cats...)
	answers(t, "8 and 8", got, e, want, api.OK)
	for range 2 {
		got, e = passage.Floor(eight, nine)
		answers(t, "8 and 9", got, e, api.Label{}, api.ErrFull)
		eight, nine = nine, eight
	}
	full := row(api.L1, 1, 16, api.L3)
	got, e = passage.Floor(full, row(api.L1, 1, 16, api.L2))
	answers(t, "16 and the same", got, e, full, api.OK)
	got, e = passage.Floor(full, row(api.L1, 16, 16, api.L0))
	answers(t, "16 and lower ones", got, e, full, api.OK)
	got, e = passage.Floor(full, row(api.L1, 2, 16, api.Star))
	answers(t, "16 and 16 in 17", got, e, api.Label{}, api.ErrFull)
	got, e = passage.Floor(full, of(api.L3))
	answers(t, "16 and what is above", got, e, of(api.L3), api.OK)
}

func TestFloorOfManyCategories(t *testing.T) {
	d := dice(11)
	two := rule{"Floor", 2, func(x []int) bool { return unplain(x[0]) || unplain(x[1]) }, func(x []int) bool { return false }, nil}
	refused := 0
	for range 20000 {
		table := d.columns(two)
		l := made(table)
		var floors []column
		for _, c := range table {
			floors = append(floors, column{c.cat, []int{bottom(c.levels[0], c.levels[1])}})
		}
		want, we := made(floors)[0], api.OK
		if len(want.Cats) > api.MaxCats {
			we = api.ErrFull
			refused++
		}
		got, e := passage.Floor(l[0], l[1])
		answers(t, "Floor", got, e, want, we)
	}
	if refused < 100 || refused > 19900 {
		t.Error("too few of one kind", refused)
	}
}
