package label_test

import (
	"testing"

	"gatehouse/api"
	"gatehouse/label"
)

func TestLeq(t *testing.T) {
	for _, x := range []struct {
		a, b   string
		ab, ba bool
	}{
		{"{1 5:*}", "{1 3:3}", true, false},
		{"{1}", "{1}", true, true},
		{"{1}", "{2}", true, false},
		{"{*}", "{J}", true, false},
		{"{1 5:3}", "{3}", true, false},
		{"{1 5:3}", "{2}", false, false},
		{"{1 5:3}", "{1 6:3}", false, false},
		{"{1 5:2 7:0}", "{1 5:2}", true, false},
		{"{1 1:3}", "{1 2305843009213693951:3}", false, false},
		// Entries alone don't tell: elsewhere the one is above the other.
		{"{2 5:0}", "{1 5:0}", false, true},
		{"{2 5:1}", "{1 5:3}", false, false},
	} {
		a, b := parse(t, x.a), parse(t, x.b)
		if label.Leq(a, b) != x.ab || label.Leq(b, a) != x.ba {
			t.Error(x, label.Leq(a, b), label.Leq(b, a))
		}
	}
	for _, a := range all() {
		for _, b := range all() {
			if label.Leq(a, b) != below(a, b) {
				t.Error(a, b, label.Leq(a, b))
			}
		}
	}
}

func TestJoinMeet(t *testing.T) {
	for _, x := range []struct{ a, b, join, meet string }{
		{"{1 3:3}", "{1 5:*}", "{1 3:3}", "{1 5:*}"},
		{"{1}", "{2}", "{2}", "{1}"},
		{"{1 5:3}", "{2 5:3}", "{2 5:3}", "{1 5:3}"},
		{"{1 5:3}", "{3}", "{3}", "{1 5:3}"},
		{"{1 5:3 7:*}", "{1 3:2 7:0 9:0}", "{1 3:2 5:3 7:0}", "{1 7:* 9:0}"},
		{"{J 5:*}", "{* 5:J}", "{J}", "{*}"},
		{"{1 1:3 2305843009213693951:0}", "{1 1:0 2305843009213693951:3}", "{1 1:3 2305843009213693951:3}", "{1 1:0 2305843009213693951:0}"},
	} {
		a, b := parse(t, x.a), parse(t, x.b)
		for range 2 {
			j, e := label.Join(a, b)
			answers(t, "Join", j, e, parse(t, x.join), api.OK)
			m, e := label.Meet(a, b)
			answers(t, "Meet", m, e, parse(t, x.meet), api.OK)
			a, b = b, a
		}
	}
}

func TestJoinMeetFull(t *testing.T) {
	eight, nine := api.Label{Def: 2, Cats: row(100, 8, 4)}, api.Label{Def: 2, Cats: row(200, 9, 4)}
	got, e := label.Join(eight, api.Label{Def: 2, Cats: row(200, 8, 4)})
	answers(t, "Join of 8 and 8", got, e, api.Label{Def: 2, Cats: append(row(100, 8, 4), row(200, 8, 4)...)}, api.OK)
	got, e = label.Join(eight, nine)
	answers(t, "Join of 8 and 9", got, e, of(0), api.ErrFull)
	got, e = label.Meet(eight, nine)
	answers(t, "Meet of 8 and 9", got, e, of(2), api.OK)

	low, lower := api.Label{Def: 2, Cats: row(100, 8, 0)}, api.Label{Def: 2, Cats: row(200, 9, 1)}
	got, e = label.Meet(low, api.Label{Def: 2, Cats: row(200, 8, 1)})
	answers(t, "Meet of 8 and 8", got, e, api.Label{Def: 2, Cats: append(row(100, 8, 0), row(200, 8, 1)...)}, api.OK)
	got, e = label.Meet(low, lower)
	answers(t, "Meet of 8 and 9 low ones", got, e, of(0), api.ErrFull)
	got, e = label.Join(low, lower)
	answers(t, "Join of 8 and 9 low ones", got, e, of(2), api.OK)

	full := api.Label{Def: 2, Cats: row(1, 16, 4)}
	got, e = label.Join(full, api.Label{Def: 2, Cats: row(1, 16, 3)})
	answers(t, "Join of 16 and the same 16", got, e, full, api.OK)
	got, e = label.Join(full, api.Label{Def: 2, Cats: row(2, 16, 4)})
	answers(t, "Join of 16 and others", got, e, of(0), api.ErrFull)
	got, e = label.Join(full, of(4))
	answers(t, "Join of 16 and what is above", got, e, of(4), api.OK)
}

// answered is, for each two labels, where among the labels the call's answer stands.
func answered(t *testing.T, labels []api.Label, call func(a, b api.Label) (api.Label, api.Errno)) [][]int {
	where := map[string]int{}
	for i, l := range labels {
		where[label.Text(l)] = i
	}
	table := make([][]int, len(labels))
	for i, a := range labels {
		for _, b := range labels {
			got, e := call(a, b)
			n, ok := where[label.Text(got)]
			if e != api.OK || !ok || !label.Right(got) {
				t.Fatal(a, b, got, e)
			}
			table[i] = append(table[i], n)
		}
	}
	return table
}

func TestOrderAndItsBounds(t *testing.T) {
	labels := all()
	leq := make([][]bool, len(labels))
	for i, a := range labels {
		for _, b := range labels {
			leq[i] = append(leq[i], label.Leq(a, b))
		}
	}
	joins, meets := answered(t, labels, label.Join), answered(t, labels, label.Meet)
	for a := range labels {
		for b := range labels {
			if (a == b) != (leq[a][b] && leq[b][a]) {
				t.Fatal("no order", labels[a], labels[b])
			}
			j, m := joins[a][b], meets[a][b]
			for c := range labels {
				if leq[a][b] && leq[b][c] && !leq[a][c] {
					t.Fatal("no order", labels[a], labels[b], labels[c])
				}
				if (leq[a][c] && leq[b][c]) != leq[j][c] {
					t.Fatal("not the least above", labels[a], labels[b], labels[c], labels[j])
				}
				if (leq[c][a] && leq[c][b]) != leq[c][m] {
					t.Fatal("not the greatest below", labels[a], labels[b], labels[c], labels[m])
				}
			}
		}
	}
}

func TestSeesAlters(t *testing.T) {
	for _, x := range []struct {
		t, o         string
		sees, alters bool
	}{
		{"{1 5:*}", "{1 5:3}", true, true},
		{"{1}", "{1 5:3}", false, false},
		{"{1 5:3}", "{1}", true, false},
		{"{1}", "{1}", true, true},
		{"{1}", "{2}", false, false},
		{"{2}", "{1}", true, false},
		{"{1 5:3}", "{1 5:3}", true, true},
		{"{1 5:3}", "{1 6:3}", false, false},
		{"{1}", "{1 5:0}", true, false},
		{"{1 5:*}", "{1 5:0}", true, true},
		{"{1 5:*}", "{1 5:3 6:3}", false, false},
		{"{*}", "{3}", true, true},
		{"{3}", "{*}", true, false},
	} {
		a, b := parse(t, x.t), parse(t, x.o)
		if label.Sees(a, b) != x.sees || label.Alters(a, b) != x.alters {
			t.Error(x, label.Sees(a, b), label.Alters(a, b))
		}
	}
	for _, a := range all() {
		for _, o := range all() {
			sees := below(o, label.Up(a))
			if label.Sees(a, o) != sees || label.Alters(a, o) != (sees && below(a, o)) {
				t.Error(a, o, label.Sees(a, o), label.Alters(a, o))
			}
		}
	}
}

func TestWhoIsAboveSeesMore(t *testing.T) {
	labels := all()
	for _, a := range labels {
		for _, o := range labels {
			if label.Alters(a, o) && !label.Sees(a, o) {
				t.Error("altered unseen", a, o)
			}
			if !label.Free(a) || !label.Sees(a, o) {
				continue
			}
			for _, b := range labels {
				if label.Free(b) && label.Leq(a, b) && !label.Sees(b, o) {
					t.Error("seen from below alone", a, b, o)
				}
			}
		}
	}
}
