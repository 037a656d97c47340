package hold_test

import (
	"fmt"
	"slices"
	"testing"

	"gatehouse/api"
	"gatehouse/hold"
)

const (
	least   = -1 << 63
	highest = 1<<63 - 1
	most    = 1 << 40
)

// of writes a label out as it stands, right or not: its level, and of each entry the category and the level.
func of(def int, pairs ...int) api.Label {
	l := api.Label{Def: def}
	for i := 0; i+1 < len(pairs); i += 2 {
		l.Cats = append(l.Cats, api.Entry{Cat: pairs[i], Level: pairs[i+1]})
	}
	return l
}

// long is a label of n entries.
func long(n int) api.Label {
	l := of(api.L1)
	for i := range n {
		l.Cats = append(l.Cats, api.Entry{Cat: i + 1, Level: api.L3})
	}
	return l
}

// free, owning and wrong labels: the first fit all objects, the second threads and gates, the last none.
func freeLabels() []api.Label {
	return []api.Label{of(api.L0), of(api.L1), of(api.L2), of(api.L3), of(api.L1, 1, api.L3), of(api.L1, 1, api.L0, api.MaxId, api.L3), long(16)}
}

func owningLabels() []api.Label {
	return []api.Label{of(api.Star), of(api.Star, 5, api.L3), of(api.L1, 5, api.Star), of(api.L1, 5, api.L3, 6, api.Star)}
}

func wrongLabels() []api.Label {
	return []api.Label{
		of(api.High), of(-1), of(6), of(least), of(highest), of(api.L1, 5, api.High), of(api.L1, 5, -1), of(api.L1, 5, 6),
		of(api.L1, 0, api.L3), of(api.L1, -1, api.L3), of(api.L1, least, api.L3), of(api.L1, api.MaxId+1, api.L3), of(api.L1, highest, api.L3),
		of(api.L1, 5, api.L1), of(api.L1, 5, api.L3, 5, api.L3), of(api.L1, 5, api.L3, 5, api.L2), of(api.L1, 6, api.L3, 5, api.L3), of(api.Star, 5, api.Star),
		of(api.L1, 1, api.L3, 2, api.High), of(api.L1, 1, api.L3, 2, api.L1), of(api.High, 5, api.L3), long(17), long(300),
	}
}

var one = of(api.L1)

func same(a, b api.Label) bool { return a.Def == b.Def && slices.Equal(a.Cats, b.Cats) }

func errno(t *testing.T, what string, got, want api.Errno) {
	t.Helper()
	if got != want {
		t.Errorf("%s: error %d, not %d", what, got, want)
	}
}

// begun answers a table of the root 1.
func begun(t *testing.T) *hold.Table {
	t.Helper()
	x := hold.New(1, one)
	if x == nil {
		t.Fatal("no table")
	}
	return x
}

// put makes an object that can be made.
func put(t *testing.T, x *hold.Table, in, id, kind, quota int) {
	t.Helper()
	errno(t, fmt.Sprintf("Make(%d, %d, %d, %d)", in, id, kind, quota), x.Make(in, id, kind, quota, one), api.OK)
}

// boxed answers a table: in the root 1 the container 5 of 100, in that the segment 7 of 60 and the thread 8 of 10; in the root beside it the segment 9 of 20 and the gate 10 of 30.
func boxed(t *testing.T) *hold.Table {
	t.Helper()
	x := begun(t)
	put(t, x, 1, 5, api.Container, 100)
	put(t, x, 5, 7, api.Segment, 60)
	put(t, x, 5, 8, api.Thread, 10)
	put(t, x, 1, 9, api.Segment, 20)
	put(t, x, 1, 10, api.Gate, 30)
	return x
}

// dropped tells whether those are gone with the link, in this order.
func dropped(t *testing.T, x *hold.Table, in, id int, want ...int) {
	t.Helper()
	gone, e := x.Drop(in, id)
	if e != api.OK || !slices.Equal(gone, want) {
		t.Errorf("Drop(%d, %d) = %v, %d, not %v", in, id, gone, e, want)
	}
}

// told tells whether that is an object's.
func told(t *testing.T, x *hold.Table, id, quota, used, links int) {
	t.Helper()
	i, ok := x.Info(id)
	if !ok || i.Id != id || i.Quota != quota || i.Used != used || i.Links != links {
		t.Errorf("Info(%d) = %+v, %t, not quota %d, used %d, links %d", id, i, ok, quota, used, links)
	}
}

// listed tells whether those are a container's entries.
func listed(t *testing.T, x *hold.Table, in int, want ...int) {
	t.Helper()
	if got, e := x.List(in); e != api.OK || !slices.Equal(got, want) {
		t.Errorf("List(%d) = %v, %d, not %v", in, got, e, want)
	}
}

// state writes out all that a table tells, so that two can be held against each other.
func state(x *hold.Table) string {
	s := fmt.Sprint(x.Len())
	for _, id := range x.Ids() {
		i, ok := x.Info(id)
		list, e := x.List(id)
		s += fmt.Sprint("\n", i, ok, list, e)
	}
	return s
}

// unchanged tells whether the calls left the table as it was.
func unchanged(t *testing.T, x *hold.Table, calls func()) {
	t.Helper()
	before := state(x)
	calls()
	if after := state(x); after != before {
		t.Errorf("changed from\n%s\nto\n%s", before, after)
	}
}

// right tells whether the sums of chapter 4's second promise hold.
func right(t *testing.T, x *hold.Table, root int) {
	t.Helper()
	links, quota := map[int]int{root: 1}, map[int]int{}
	for _, id := range x.Ids() {
		i, _ := x.Info(id)
		quota[id] = i.Quota
	}
	for _, id := range x.Ids() {
		i, ok := x.Info(id)
		list, _ := x.List(id)
		used := 0
		for _, entry := range list {
			links[entry]++
			used += quota[entry]
			if quota[entry] == 0 || !x.Has(id, entry) {
				t.Errorf("%d has the entry %d, that isn't there", id, entry)
			}
		}
		if !ok || i.Id != id || i.Used != used || used > i.Quota {
			t.Errorf("%d of %d: Used %d, not %d", id, i.Quota, i.Used, used)
		}
	}
	for _, id := range x.Ids() {
		if i, _ := x.Info(id); i.Links != links[id] {
			t.Errorf("%d: Links %d, not %d", id, i.Links, links[id])
		}
	}
	if n := len(reached(x, root)); n != x.Len() || n != len(x.Ids()) {
		t.Errorf("%d of %d objects can be reached", n, x.Len())
	}
}

// reached answers all that can be reached from the root by entries.
func reached(x *hold.Table, root int) map[int]bool {
	seen, work := map[int]bool{root: true}, []int{root}
	for len(work) > 0 {
		list, _ := x.List(work[0])
		work = work[1:]
		for _, id := range list {
			if !seen[id] {
				seen[id] = true
				work = append(work, id)
			}
		}
	}
	return seen
}

// dice is a row of numbers that look like chance, the same each time.
type dice uint64

func (d *dice) roll(n int) int {
	*d = *d*6364136223846793005 + 1442695040888963407
	return int(uint64(*d) >> 33 % uint64(n))
}

// pick answers one of a few.
func pick[T any](d *dice, some ...T) T { return some[d.roll(len(some))] }
