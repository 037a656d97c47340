package audit

import (
	"slices"

	"gatehouse/api"
	"gatehouse/label"
)

// item is an object of a dump, where it stands there, and what the dump tells of numbers.
type item struct {
	*api.Object
	*survey
	at int
}

func (i item) isOutOfOrder() bool {
	return i.Id < 1 || i.Id > api.MaxId || i.at > 0 && i.Id <= i.dump[i.at-1].Id
}

func (i item) cannotBe() bool {
	return !isKind(i.Kind) || i.Quota < 1 || i.Quota > api.MaxQuota || i.Id == i.root && i.Kind != api.Container
}

func (i item) hasWrongEntry() bool {
	return len(distinct(i.List)) < len(i.List) || slices.ContainsFunc(i.List, i.namesNone)
}

func (i item) hasWrongLinks() bool {
	links := i.holders[i.Id]
	if i.Id == i.root {
		links++
	}
	return i.Links != links
}

func (i item) hasWrongUsed() bool {
	sum := 0
	for _, id := range i.List {
		if o := i.named(id); o != nil {
			sum += o.Quota
		}
	}
	return i.Used != sum || i.Used > i.Quota
}

func (i item) isOutOfReach() bool {
	_, ok := i.reached[i.Id]
	return !ok
}

// isWashed tells whether a container is more tainted than this object in it may be.
func (i item) isWashed() bool {
	if i.Kind == api.Thread || !label.Right(i.Label) {
		return false
	}
	// {1} has no entries of its own, so there is always room for the greater of the two.
	bound, _ := label.Join(label.Up(i.Label), api.Label{Def: api.L1})
	return slices.ContainsFunc(i.taints[i.Id], func(l api.Label) bool { return !label.Leq(l, bound) })
}

func (i item) waitsWrongly() bool {
	switch i.Does {
	case api.Runs, api.Stops:
		return i.Seg != 0 || i.Off != 0
	case api.Waits:
		o := i.named(i.Seg)
		return o == nil || o.Kind != api.Segment || i.Off < 0 || i.Off >= maxBytes || len(i.Alerts) > 0
	}
	return true
}
