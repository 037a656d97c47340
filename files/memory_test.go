package files_test

import (
	"slices"
	"testing"

	"gatehouse/api"
)

// spare is a label with room behind its entries, all of it filled with something.
func spare() api.Label {
	cats := []api.Entry{{Cat: 20, Level: api.L3}, {Cat: 88, Level: 88}, {Cat: 99, Level: 99}}
	return api.Label{Def: api.L1, Cats: cats[:1]}
}

// What is handed in is neither changed nor kept.
func TestLabelsHandedIn(t *testing.T) {
	d := bare(t)
	for _, name := range adding() {
		l := spare()
		w := d.draw(owner)
		d.goesWell(t, w, call{name: name, path: "/" + name, l: l, quota: 5000})
		d.refuses(t, d.draw(owner), call{name: name, path: "/none" + name, l: l, quota: 0}, api.ErrInval)
		if !slices.Equal(l.Cats[:3], []api.Entry{{Cat: 20, Level: api.L3}, {Cat: 88, Level: 88}, {Cat: 99, Level: 99}}) {
			t.Error(name, l.Cats[:3])
		}
		l.Cats[0] = api.Entry{Cat: 77, Level: api.L0}
		if s := d.stat(t, "/"+name); !same(s.Label, of("{1 20:3}")) {
			t.Error(name, s)
		}
	}
	l := spare()
	f := boots(t, d.k, d.draw(owner), 1, l, 5000, api.OK)
	l.Cats[0] = api.Entry{Cat: 77, Level: api.L0}
	if s, e := f.Stat(by(owner), "/"); e != api.OK || !same(s.Label, of("{1 20:3}")) {
		t.Error(s, e)
	}
}

// What is answered is new memory: whoever changes it changes nothing else.
func TestAnswersAreNew(t *testing.T) {
	d := furnished(t)
	for _, path := range []string{"/", "/d", "/h"} {
		want, other := mustList(t, d, path), mustList(t, d, path)
		unchanged(t, d.k, func() {
			for i := range other {
				other[i] = api.Name{Name: "changed", Kind: 9, Id: 9}
			}
			_ = append(other, other...)
			if got := mustList(t, d, path); !slices.Equal(got, want) {
				t.Error(path, got)
			}
		})
	}
	for _, path := range []string{"/s", "/h", "/k", "/o"} {
		want := d.stat(t, path)
		other := d.stat(t, path)
		unchanged(t, d.k, func() {
			other.Label.Cats[0] = api.Entry{Cat: 9, Level: 9}
			_ = append(other.Label.Cats, other.Label.Cats...)
			if got := d.stat(t, path); !same(got, want) {
				t.Error(path, got)
			}
		})
	}
}
