package audit

import (
	"slices"

	"gatehouse/api"
	"gatehouse/label"
)

// survey is a dump, and what it tells of numbers: it is made once, so that no object needs to be held against all others.
type survey struct {
	dump    []api.Object
	root    int
	first   map[int]int         // where the first object of a number stands
	holders map[int]int         // how many containers have a number as an entry
	taints  map[int][]api.Label // what labels those have, the right ones
	reached map[int]struct{}    // the numbers that entries lead to from the root on, and the root
}

func newSurvey(d []api.Object, root int) *survey {
	s := &survey{
		dump: d, root: root,
		first: map[int]int{}, holders: map[int]int{}, taints: map[int][]api.Label{}, reached: map[int]struct{}{},
	}
	for at := range d {
		if _, ok := s.first[d[at].Id]; !ok {
			s.first[d[at].Id] = at
		}
		s.noteEntries(&d[at])
	}
	s.reach()
	return s
}

// noteEntries notes an object as the holder of what its entries name.
func (s *survey) noteEntries(o *api.Object) {
	isRight := label.Right(o.Label)
	for _, id := range distinct(entries(o)) {
		s.holders[id]++
		if isRight {
			s.taints[id] = joined(s.taints[id], o.Label)
		}
	}
}

// reach notes what can be reached.
func (s *survey) reach() {
	for ask := []int{s.root}; len(ask) > 0; {
		id := ask[len(ask)-1]
		ask = ask[:len(ask)-1]
		// Containers may hold each other: each number is gone into once.
		if _, ok := s.reached[id]; ok {
			continue
		}
		s.reached[id] = struct{}{}
		if o := s.named(id); o != nil {
			ask = append(ask, entries(o)...)
		}
	}
}

// named answers the object that a number names, nil if there is none.
func (s *survey) named(id int) *api.Object {
	at, ok := s.first[id]
	if !ok {
		return nil
	}
	return &s.dump[at]
}

func (s *survey) namesNone(id int) bool { return s.named(id) == nil }

// entries answers the numbers that an object has as entries: none, whatever its List, if it is no container.
func entries(o *api.Object) []int {
	if o.Kind != api.Container {
		return nil
	}
	return o.List
}

// distinct answers the numbers of a list, each once.
func distinct(list []int) []int {
	list = slices.Clone(list)
	slices.Sort(list)
	return slices.Compact(list)
}

// joined answers a row of labels with one more, into the last of them while there is room: what is above both of two labels is above the greater of them, and the row stays short, however many containers hold one number.
func joined(row []api.Label, l api.Label) []api.Label {
	if n := len(row); n > 0 {
		if both, e := label.Join(row[n-1], l); e == api.OK {
			row[n-1] = both
			return row
		}
	}
	return append(row, l)
}
