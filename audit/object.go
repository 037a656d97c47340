package audit

import (
	"slices"

	"gatehouse/api"
	"gatehouse/label"
	"gatehouse/space"
)

const (
	maxBytes = api.PageSize * api.MaxPages // of a segment
	maxAlert = 255
)

func isKind(n int) bool { return api.Container <= n && n <= api.Device }

func hasWrongLabel(i item) bool {
	if i.Kind == api.Thread || i.Kind == api.Gate {
		return !label.Plain(i.Label)
	}
	return !label.Free(i.Label)
}

func hasWrongClearance(i item) bool {
	return !label.Free(i.Clear) || !label.Right(i.Label) || !label.Leq(i.Label, i.Clear)
}

func hasTooManyBytes(i item) bool { return len(i.Bytes) > i.Quota || len(i.Bytes) > maxBytes }

func hasWrongMaps(i item) bool { return !space.Right(i.Maps) }

func hasLongRows(i item) bool { return len(i.Heard) > api.MaxLine || len(i.Out) > api.MaxLine }

func hasWrongAlerts(i item) bool {
	cannotBe := func(n int) bool { return n < 0 || n > maxAlert }
	return len(i.Alerts) > api.MaxAlerts || slices.ContainsFunc(i.Alerts, cannotBe)
}

// hasForeignField tells whether anything is left of an object without what its kind has.
func hasForeignField(i item) bool {
	o := *i.Object
	switch o.Kind {
	case api.Container:
		o.List, o.Used = nil, 0
	case api.Segment:
		o.Bytes = ""
	case api.Space:
		o.Maps = nil
	case api.Thread:
		o.Clear, o.Space, o.State = api.Label{}, api.Ref{}, api.State{}
		o.Does, o.Seg, o.Off, o.Alerts = 0, 0, 0, nil
	case api.Gate:
		o.Clear, o.Space, o.Entry = api.Label{}, api.Ref{}, 0
	case api.Device:
		o.Heard, o.Out = "", ""
	default:
		return false
	}
	return !isBare(o)
}

// isBare tells whether an object has nothing of what some kinds have and others haven't.
func isBare(o api.Object) bool {
	return len(o.List) == 0 && o.Used == 0 && o.Bytes == "" && len(o.Maps) == 0 &&
		o.Clear.Def == 0 && len(o.Clear.Cats) == 0 && o.Space == api.Ref{} && o.State == api.State{} && o.Entry == 0 &&
		o.Does == 0 && o.Seg == 0 && o.Off == 0 && len(o.Alerts) == 0 && o.Heard == "" && o.Out == ""
}
