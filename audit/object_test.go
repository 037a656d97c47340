package audit_test

import (
	"slices"
	"strings"
	"testing"

	"gatehouse/api"
	"gatehouse/audit"
)

func TestKind(t *testing.T) {
	kind := func(o *api.Object) *int { return &o.Kind }
	quota := func(o *api.Object) *int { return &o.Quota }
	var list []spoilt
	for _, n := range []int{least, -1, 0, 7, highest} {
		list = append(list, set(isConsole, n, kind, is(2, api.BadKind)), set(isHidden, n, kind, is(12, api.BadKind)), set(isFirst, n, kind, is(3, api.BadKind, api.BadLabel)))
	}
	list = append(list,
		set(isConsole, 7, quota, is(1, api.BadUsed)),
		set(isConsole, api.MaxQuota-30000, quota, is(1, api.BadUsed)),
		set(isConsole, api.MaxQuota, quota, is(1, api.BadUsed)),
		set(isConsole, api.MaxQuota+1, quota, is(1, api.BadUsed), is(2, api.BadKind)),
		set(isConsole, highest, quota, is(1, api.BadUsed), is(2, api.BadKind)),
		set(isConsole, 0, quota, is(1, api.BadUsed), is(2, api.BadKind)),
		set(isConsole, -1, quota, is(1, api.BadUsed), is(2, api.BadKind)),
		set(isConsole, least, quota, is(1, api.BadUsed), is(2, api.BadKind)),
		set(isRoot, api.MaxQuota+1, quota, is(1, api.BadKind)),
		set(isRoot, 40000, quota),
		set(isHidden, 256, quota, is(6, api.BadUsed)),
		set(isHidden, 255, quota, is(6, api.BadUsed), is(12, api.BadBytes)),
	)
	allTold(t, list)
}

func TestLabel(t *testing.T) {
	var list []spoilt
	label := func(place int, l api.Label, want ...[]api.Issue) {
		list = append(list, spoilt{l, func(d []api.Object) { d[place].Label = l }, slices.Concat(want...)})
	}
	for _, l := range notFree() {
		label(isConsole, l, is(2, api.BadLabel))
		label(isInner, l, is(11, api.BadLabel))
		label(isSpace, l, is(15, api.BadLabel))
	}
	for _, l := range notPlain() {
		label(isFirst, l, is(3, api.BadLabel, api.BadClear))
		label(isDoor, l, is(16, api.BadLabel, api.BadClear))
	}
	for _, l := range notRight() {
		label(isSecret, l, is(6, api.BadLabel))
	}
	// What thread and gate own is told of none of them.
	for _, s := range []string{"{*}", "{1 5:*}", "{* 5:3}", "{3}", "{0}"} {
		label(isFirst, of(s))
		label(isDoor, of(s))
	}
	for _, s := range []string{"{1}", "{0}", "{2}", "{3}", "{3 5:0}", "{1 2305843009213693951:3}"} {
		label(isConsole, of(s))
		label(isSpace, of(s))
	}
	label(isConsole, long(16, api.L3))
	label(isFirst, long(16, api.Star))
	allTold(t, list)
}

// TestLabelOfNoKind: what is of no kind must have a free label.
func TestLabelOfNoKind(t *testing.T) {
	for _, kind := range []int{least, 0, 7} {
		for _, x := range []struct {
			l    string
			want []api.Issue
		}{{"{1}", is(2, api.BadKind)}, {"{1 5:*}", is(2, api.BadKind, api.BadLabel)}, {"{J}", is(2, api.BadKind, api.BadLabel)}} {
			d := rightDump(t)
			d[isConsole].Kind, d[isConsole].Label = kind, of(x.l)
			tells(t, x.l, d, 1, x.want)
		}
	}
}

func TestClear(t *testing.T) {
	var list []spoilt
	clear := func(place int, l api.Label, want ...[]api.Issue) {
		list = append(list, spoilt{l, func(d []api.Object) { d[place].Clear = l }, slices.Concat(want...)})
	}
	for _, l := range append(notFree(), of("{0}"), api.Label{}, of("{1 20:2}"), of("{3 20:0}")) {
		clear(isAlerted, l, is(31, api.BadClear))
	}
	for _, l := range append(notFree(), of("{0}"), api.Label{}, of("{0 20:3}"), of("{3 5:0}")) {
		clear(isDoor, l, is(16, api.BadClear))
	}
	// At most: the same is enough.
	clear(isAlerted, of("{1 20:3}"))
	clear(isWaiting, of("{1}"))
	clear(isDoor, of("{1 20:0}"))
	clear(isDoorway, long(16, api.L3))
	allTold(t, list)
}

// TestHighLabelOfThread: a label with High is right, and above no free clearance.
func TestHighLabelOfThread(t *testing.T) {
	d := rightDump(t)
	d[isFirst].Label, d[isDoor].Label = of("{J}"), of("{1 5:J}")
	tells(t, "high", d, 1, is(3, api.BadLabel, api.BadClear), is(16, api.BadLabel, api.BadClear))
}

func TestBytes(t *testing.T) {
	bytes := func(n int) func(d []api.Object) {
		return func(d []api.Object) { d[isCell].Bytes = strings.Repeat("x", n) }
	}
	allTold(t, []spoilt{
		{"none", bytes(0), nil}, {"all", bytes(4096), nil}, {"too many", bytes(4097), is(10, api.BadBytes)}, {"above the quota, too", bytes(5001), is(10, api.BadBytes)},
		{"as many as the quota", func(d []api.Object) { d[isInner].Bytes = strings.Repeat("\x00", 100) }, nil},
		{"one more", func(d []api.Object) { d[isInner].Bytes = strings.Repeat("\x00", 101) }, is(11, api.BadBytes)},
		{"of a device", func(d []api.Object) { d[isConsole].Bytes = strings.Repeat("x", 5000) }, is(2, api.BadField)},
	})
}

func TestMaps(t *testing.T) {
	maps := func(list ...api.Map) func(d []api.Object) {
		return func(d []api.Object) { d[isSpace].Maps = list }
	}
	page := func(i int) api.Map { return api.Map{At: i, Pages: 1, In: 1, Id: 10} }
	var full []api.Map
	for i := range api.MaxMaps {
		full = append(full, page(2*i))
	}
	list := []spoilt{
		{"none", maps(), nil}, {"full", maps(full...), nil}, {"too many", maps(append(full, page(100))...), is(15, api.BadMaps)},
		{"falling", maps(page(2), page(1)), is(15, api.BadMaps)}, {"one over another", maps(api.Map{At: 1, Pages: 2, In: 1, Id: 10}, page(2)), is(15, api.BadMaps)},
		{"of what isn't there", maps(api.Map{Pages: 64, In: api.MaxId, Id: 77}), nil},
		{"of a gate", func(d []api.Object) { d[isDoor].Maps = append(full, full...) }, is(16, api.BadField)},
	}
	for _, m := range []api.Map{{}, {Pages: 65, In: 1, Id: 1}, {Pages: 1, Id: 1}, {Pages: 1, In: 1}, {At: -1, Pages: 1, In: 1, Id: 1}, {From: 64, Pages: 1, In: 1, Id: 1}, {At: api.MaxVa, Pages: 1, In: 1, Id: 1}} {
		list = append(list, spoilt{m, maps(m), is(15, api.BadMaps)})
	}
	allTold(t, list)
}

func TestWait(t *testing.T) {
	wait := func(place, does, seg, off int) func(d []api.Object) {
		return func(d []api.Object) { d[place].Does, d[place].Seg, d[place].Off = does, seg, off }
	}
	bad := is(30, api.BadWait)
	list := []spoilt{
		{"runs", wait(isWaiting, api.Runs, 0, 0), nil}, {"stops", wait(isWaiting, api.Stops, 0, 0), nil},
		{"runs at a segment", wait(isWaiting, api.Runs, 10, 0), bad}, {"stops at a segment", wait(isWaiting, api.Stops, 10, 0), bad},
		{"runs at a byte", wait(isWaiting, api.Runs, 0, 8), bad}, {"stops at a byte", wait(isWaiting, api.Stops, 0, -8), bad},
		{"the first byte", wait(isWaiting, api.Waits, 10, 0), nil}, {"the last one", wait(isWaiting, api.Waits, 10, 4095), nil},
		{"beyond its bytes", wait(isWaiting, api.Waits, 11, 4095), nil}, {"a segment that it doesn't see", wait(isWaiting, api.Waits, 12, 0), nil},
		{"alerts", func(d []api.Object) { d[isWaiting].Alerts = []int{0} }, bad},
		{"waits with alerts", wait(isAlerted, api.Waits, 10, 0), is(31, api.BadWait)}, {"runs with alerts", wait(isAlerted, api.Runs, 0, 0), nil},
		{"a gate that waits", wait(isDoor, api.Waits, 10, 0), is(16, api.BadField)},
	}
	for _, n := range []int{least, -1, 3, highest} {
		list = append(list, spoilt{n, wait(isWaiting, n, 0, 0), bad}, spoilt{n, wait(isWaiting, n, 10, 0), bad})
	}
	for _, n := range []int{least, -1, 0, 1, 2, 15, 16, 30, 99, highest} {
		list = append(list, spoilt{n, wait(isWaiting, api.Waits, n, 0), bad})
	}
	for _, n := range []int{least, -1, 4096, highest} {
		list = append(list, spoilt{n, wait(isWaiting, api.Waits, 10, n), bad})
	}
	allTold(t, list)
}

func TestLine(t *testing.T) {
	row := strings.Repeat("x", api.MaxLine)
	alerts := func(place int, list ...int) func(d []api.Object) {
		return func(d []api.Object) { d[place].Alerts = list }
	}
	list := []spoilt{
		{"full", func(d []api.Object) { d[isConsole].Heard, d[isConsole].Out = row, row }, nil},
		{"too much heard", func(d []api.Object) { d[isConsole].Heard = row + "x" }, is(2, api.BadLine)},
		{"too much said", func(d []api.Object) { d[isConsole].Out = row + "x" }, is(2, api.BadLine)},
		{"both", func(d []api.Object) { d[isConsole].Out, d[isConsole].Heard = row+row, row+row }, is(2, api.BadLine)},
		{"of a thread", func(d []api.Object) { d[isFirst].Out = row + "x" }, is(3, api.BadField)},
		{"eight alerts", alerts(isFirst, 0, 255, 0, 1, 2, 3, 4, 5), nil},
		{"nine", alerts(isFirst, 0, 255, 0, 1, 2, 3, 4, 5, 6), is(3, api.BadLine)},
		{"while it waits", alerts(isWaiting, 256), is(30, api.BadWait, api.BadLine)},
		{"of a device", alerts(isConsole, 1, 2, 3, 4, 5, 6, 7, 8, 9, 256), is(2, api.BadField)},
	}
	for _, n := range []int{least, -1, 256, highest} {
		list = append(list, spoilt{n, alerts(isFirst, n), is(3, api.BadLine)}, spoilt{n, alerts(isFirst, 7, n), is(3, api.BadLine)})
	}
	allTold(t, list)
}

// TestField: each field that isn't of all kinds, in each kind. Numbers at their least step and their ends.
func TestField(t *testing.T) {
	for name, x := range map[string]struct {
		kinds []int
		give  func(o *api.Object)
	}{
		"List":   {[]int{api.Container}, func(o *api.Object) { o.List = []int{0} }},
		"Used":   {[]int{api.Container}, func(o *api.Object) { o.Used = least }},
		"Bytes":  {[]int{api.Segment}, func(o *api.Object) { o.Bytes = "\x00" }},
		"Maps":   {[]int{api.Space}, func(o *api.Object) { o.Maps = []api.Map{{}} }},
		"Clear":  {[]int{api.Thread, api.Gate}, func(o *api.Object) { o.Clear.Def = 1 }},
		"Cats":   {[]int{api.Thread, api.Gate}, func(o *api.Object) { o.Clear.Cats = []api.Entry{{}} }},
		"In":     {[]int{api.Thread, api.Gate}, func(o *api.Object) { o.Space.In = -1 }},
		"Id":     {[]int{api.Thread, api.Gate}, func(o *api.Object) { o.Space.Id = highest }},
		"Pc":     {[]int{api.Thread}, func(o *api.Object) { o.State.Pc = 1 << 63 }},
		"R[0]":   {[]int{api.Thread}, func(o *api.Object) { o.State.R[0] = 1 }},
		"R[15]":  {[]int{api.Thread}, func(o *api.Object) { o.State.R[15] = 1 }},
		"Does":   {[]int{api.Thread}, func(o *api.Object) { o.Does = api.Stops }},
		"Seg":    {[]int{api.Thread}, func(o *api.Object) { o.Seg = -1 }},
		"Off":    {[]int{api.Thread}, func(o *api.Object) { o.Off = 1 }},
		"Alerts": {[]int{api.Thread}, func(o *api.Object) { o.Alerts = []int{0} }},
		"Entry":  {[]int{api.Gate}, func(o *api.Object) { o.Entry = 1 }},
		"Heard":  {[]int{api.Device}, func(o *api.Object) { o.Heard = "\x00" }},
		"Out":    {[]int{api.Device}, func(o *api.Object) { o.Out = "o" }},
		"nothing": {[]int{1, 2, 3, 4, 5, 6}, func(o *api.Object) {
			o.List, o.Maps, o.Alerts, o.Clear.Cats = []int{}, []api.Map{}, []int{}, []api.Entry{}
		}},
	} {
		for _, kind := range []int{-1, 0, 1, 2, 3, 4, 5, 6, 7} {
			o := api.Object{Info: api.Info{Id: 7, Kind: kind, Quota: 1, Links: 1, Label: of("{1}")}}
			x.give(&o)
			got := audit.Check([]api.Object{o}, 7)
			want := 1 <= kind && kind <= 6 && !slices.Contains(x.kinds, kind)
			if slices.Contains(got, api.Issue{Id: 7, What: api.BadField}) != want {
				t.Error(name, kind, got)
			}
			if ought := model([]api.Object{o}, 7); !slices.Equal(got, ought) {
				t.Error(name, kind, got, ought)
			}
		}
	}
}
