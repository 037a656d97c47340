package passage_test

import (
	"testing"

	"gatehouse/api"
	"gatehouse/label"
	"gatehouse/passage"
)

// places is every category that may be named in a test, and one that never is.
func places() []int {
	var cats []int
	for cat := 1; cat <= 41; cat++ {
		cats = append(cats, cat)
	}
	return cats
}

// sets makes labels for a rule: of each level alone, then of many categories by chance.
func sets(r rule, each func(l []api.Label)) {
	for n := range tuples(r.labels) {
		each(made([]column{{0, tuple(n, r.labels)}}))
	}
	d := dice(23)
	for range 3000 {
		each(made(d.columns(r)))
	}
}

func plainAll(labels ...api.Label) bool {
	for _, l := range labels {
		if !label.Plain(l) {
			return false
		}
	}
	return true
}

// washed is a category at which nobody of the owners owns it, and the level behind is below the one ahead (0: none).
func washed(ahead, behind api.Label, owners ...api.Label) int {
	for _, cat := range places() {
		owned := false
		for _, o := range owners {
			owned = owned || label.At(o, cat) == api.Star
		}
		if !owned && label.At(behind, cat) < label.At(ahead, cat) {
			return cat
		}
	}
	return 0
}

func TestNothingIsWashed(t *testing.T) {
	for _, r := range rules() {
		passed := 0
		sets(r, func(l []api.Label) {
			if r.call(l) != api.OK || !plainAll(l[0]) {
				return
			}
			passed++
			bad := 0
			switch r.name {
			case "Make":
				bad = washed(l[0], l[3], l[0])
			case "Lend", "Rise":
				bad = washed(l[0], l[2], l[0])
			case "Enter":
				if plainAll(l[2]) {
					bad = washed(l[0], l[4], l[0], l[2])
				}
			}
			if bad != 0 {
				t.Fatal("washed", r.name, l, bad)
			}
		})
		if passed < 1000 {
			t.Error("too few passed", r.name, passed)
		}
	}
}

// The floor itself may be taken, and nothing below it, where the clearances let one.
func TestFloorIsTheLeast(t *testing.T) {
	top := of(api.L3)
	d := dice(31)
	r := rule{"pairs", 3, func(x []int) bool { return unplain(x[0]) || unplain(x[1]) || unplain(x[2]) }, func(x []int) bool { return false }, nil}
	taken := 0
	for range 20000 {
		l := made(d.columns(r))
		if !plainAll(l...) {
			continue
		}
		floor, e := passage.Floor(l[0], l[1])
		if e != api.OK {
			continue
		}
		want := api.OK
		if e := passage.Enter(l[0], top, l[1], top, floor, top); e != want {
			t.Fatal("the floor", l, floor, e)
		}
		if !label.Leq(floor, l[2]) {
			want = api.ErrLabel
		}
		if e := passage.Enter(l[0], top, l[1], top, l[2], top); e != want {
			t.Fatal("a label", l, floor, e)
		}
		taken++
	}
	if taken < 1000 {
		t.Error("too few", taken)
	}
}

// between is a label by chance between two, of which the first is at most the second; false, if it came out too long.
func (d *dice) between(low, high api.Label) (api.Label, bool) {
	level := func(cat int) int {
		a, b := label.At(low, cat), label.At(high, cat)
		return a + d.roll(b-a+1)
	}
	def := level(0)
	var entries []api.Entry
	for _, cat := range places() {
		if label.At(low, cat) == low.Def && label.At(high, cat) == high.Def && d.roll(3) > 0 {
			continue
		}
		entries = append(entries, api.Entry{Cat: cat, Level: level(cat)})
	}
	l, e := label.Make(def, entries...)
	return l, e == api.OK && label.Leq(low, l) && label.Leq(l, high)
}

func TestWhatIsBetweenMayBeTaken(t *testing.T) {
	d := dice(41)
	for _, r := range rules() {
		if r.name != "Rise" {
			continue
		}
		taken := 0
		sets(r, func(l []api.Label) {
			if r.call(l) != api.OK {
				return
			}
			for range 3 {
				w, ok := d.between(l[0], l[2])
				if !ok {
					continue
				}
				taken++
				if e := passage.Rise(l[0], l[1], w); e != api.OK {
					t.Fatal(l, w, e)
				}
			}
		})
		if taken < 1000 {
			t.Error("too few", taken)
		}
	}
}

func TestEnterWithItsOwn(t *testing.T) {
	d := dice(43)
	r := rule{"own", 4,
		func(x []int) bool { return unplain(x[0]) || unfree(x[1]) || unplain(x[2]) || unfree(x[3]) },
		func(x []int) bool { return x[0] > x[1] }, nil}
	went, stayed := 0, 0
	for range 20000 {
		l := made(d.columns(r))
		own, c, g, gc := l[0], l[1], l[2], l[3]
		if !plainAll(own, g) || !label.Free(c) || !label.Free(gc) || !label.Leq(own, c) {
			continue
		}
		floor, e := passage.Floor(own, g)
		if e != api.OK {
			continue
		}
		want := api.ErrLabel
		if label.Leq(floor, own) && label.Leq(own, gc) {
			want = api.OK
			went++
		} else {
			stayed++
		}
		if e := passage.Enter(own, c, g, gc, own, c); e != want {
			t.Fatal(l, floor, e, want)
		}
	}
	if went < 20 || stayed < 20 {
		t.Error("too few", went, stayed)
	}
}
