package view

import (
	"slices"

	"gatehouse/api"
)

// Same: are two lists the same?
func Same(a, b []api.Object) bool { return slices.EqualFunc(a, b, sameObject) }

func sameObject(a, b api.Object) bool {
	return sameInfo(a.Info, b.Info) &&
		slices.Equal(a.List, b.List) && a.Bytes == b.Bytes && slices.Equal(a.Maps, b.Maps) &&
		sameLabel(a.Clear, b.Clear) && a.Space == b.Space && a.State == b.State && a.Entry == b.Entry &&
		a.Does == b.Does && a.Seg == b.Seg && a.Off == b.Off && slices.Equal(a.Alerts, b.Alerts) &&
		a.Heard == b.Heard && a.Out == b.Out
}

func sameInfo(a, b api.Info) bool {
	return a.Id == b.Id && a.Kind == b.Kind && a.Quota == b.Quota && a.Used == b.Used && a.Links == b.Links &&
		sameLabel(a.Label, b.Label)
}

func sameLabel(a, b api.Label) bool { return a.Def == b.Def && slices.Equal(a.Cats, b.Cats) }
