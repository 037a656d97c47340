package view_test

import (
	"fmt"
	"reflect"
	"slices"
	"testing"

	"gatehouse/api"
	"gatehouse/view"
)

// full answers an object with something in every field, made anew each time.
func full() api.Object {
	var o api.Object
	fill(reflect.ValueOf(&o).Elem(), 1)
	return o
}

// fill writes something into all that a value has; of lists, three.
func fill(v reflect.Value, n int) {
	switch v.Kind() {
	case reflect.Struct:
		for i := range v.NumField() {
			fill(v.Field(i), n+i+1)
		}
	case reflect.Slice:
		v.Set(reflect.MakeSlice(v.Type(), 3, 3))
		for i := range 3 {
			fill(v.Index(i), n+i+1)
		}
	case reflect.Array:
		for i := range v.Len() {
			fill(v.Index(i), n+i+1)
		}
	case reflect.Int:
		v.SetInt(int64(n))
	case reflect.Uint64:
		v.SetUint(uint64(n))
	case reflect.String:
		v.SetString(fmt.Sprint(n))
	case reflect.Bool:
		v.SetBool(true)
	default:
		panic(v.Kind())
	}
}

// leaves goes through all that a value is made of, numbers, texts and lists, and tells where each stands.
func leaves(v reflect.Value, path string, visit func(v reflect.Value, path string)) {
	switch v.Kind() {
	case reflect.Struct:
		for i := range v.NumField() {
			leaves(v.Field(i), path+"."+v.Type().Field(i).Name, visit)
		}
	case reflect.Slice, reflect.Array:
		for i := range v.Len() {
			leaves(v.Index(i), fmt.Sprint(path, "[", i, "]"), visit)
		}
		if v.Kind() == reflect.Slice {
			visit(v, path)
		}
	default:
		visit(v, path)
	}
}

// changed goes through other values that stand in the place of one, and undoes each.
func changed(v reflect.Value, ask func(how string)) {
	old := reflect.New(v.Type()).Elem()
	old.Set(v)
	set := func(how string, other reflect.Value) {
		v.Set(other)
		ask(how)
		v.Set(old)
	}
	switch v.Kind() {
	case reflect.Slice:
		set("shorter", v.Slice(0, 2))
		set("none", reflect.Zero(v.Type()))
		set("longer", reflect.Append(v.Slice3(0, 3, 3), v.Index(2)))
	case reflect.Int:
		set("more", reflect.ValueOf(int(v.Int()+1)))
		set("zero", reflect.ValueOf(0))
		set("far", reflect.ValueOf(int(v.Int())|least))
	case reflect.Uint64:
		set("more", reflect.ValueOf(v.Uint()+1))
		set("zero", reflect.ValueOf(uint64(0)))
		set("far", reflect.ValueOf(v.Uint()|1<<63))
	case reflect.String:
		set("longer", reflect.ValueOf(v.String()+"\x00"))
		set("none", reflect.ValueOf(""))
		set("other", reflect.ValueOf("\xff"+v.String()[1:]))
	case reflect.Bool:
		set("not", reflect.ValueOf(!v.Bool()))
	}
}

// TestSameInEveryField: wherever two objects are unlike, the lists aren't the same.
func TestSameInEveryField(t *testing.T) {
	asked := 0
	for place := range 3 {
		a, b := []api.Object{full(), full(), full()}, []api.Object{full(), full(), full()}
		if !view.Same(a, b) {
			t.Fatal("two of the same aren't")
		}
		o := reflect.ValueOf(&b[place]).Elem()
		leaves(o, "", func(v reflect.Value, path string) {
			changed(v, func(how string) {
				asked++
				if view.Same(a, b) || view.Same(b, a) {
					t.Error(place, path, how, "the same")
				}
			})
		})
		if !view.Same(a, b) {
			t.Fatal("not undone")
		}
	}
	if asked < 3*200 {
		t.Error("only", asked, "asked")
	}
}

func TestSameLists(t *testing.T) {
	a, b := box(1, 2), box(2, 1)
	for _, x := range []struct {
		p, q []api.Object
		want bool
	}{
		{nil, nil, true},
		{nil, []api.Object{}, true},
		{[]api.Object{}, nil, true},
		{nil, []api.Object{{}}, false},
		{[]api.Object{{}}, nil, false},
		{[]api.Object{{}}, []api.Object{{}}, true},
		{[]api.Object{{}}, []api.Object{{}, {}}, false},
		{[]api.Object{a, b}, []api.Object{a, b}, true},
		{[]api.Object{a, b}, []api.Object{b, a}, false},
		{[]api.Object{a, b}, []api.Object{a}, false},
		{[]api.Object{b}, []api.Object{a, b}, false},
		{[]api.Object{a, a}, []api.Object{a, a}, true},
		{[]api.Object{box(1, 2, 3)}, []api.Object{box(1, 3, 2)}, false},
		{[]api.Object{box(1, 2, 2)}, []api.Object{box(1, 2)}, false},
	} {
		if got := view.Same(x.p, x.q); got != x.want {
			t.Error(x, got)
		}
	}
}

// TestSameNilAndEmpty: in every list of an object they are one.
func TestSameNilAndEmpty(t *testing.T) {
	bare := api.Object{}
	empty := api.Object{List: []int{}, Maps: []api.Map{}, Alerts: []int{}}
	empty.Label.Cats, empty.Clear.Cats = []api.Entry{}, make([]api.Entry, 0, 5)
	p, q := []api.Object{bare}, []api.Object{empty}
	if !view.Same(p, q) || !view.Same(q, p) {
		t.Error("nil and empty lists")
	}
	// What stands behind a list, in its spare room, isn't of it.
	roomy := []int{4, 5, 6}
	if !view.Same([]api.Object{box(1, roomy[:2]...)}, []api.Object{box(1, 4, 5)}) {
		t.Error("spare room")
	}
}

// TestSameAsItself: of whatever dumps, a list is the same as a copy of it, and as no other one of a row.
func TestSameAsItself(t *testing.T) {
	d := dice(7)
	for range 500 {
		a, _ := d.dump()
		b, _ := d.dump()
		if !view.Same(a, a) || !view.Same(a, slices.Clone(a)) {
			t.Fatalf("%+v isn't itself", a)
		}
		if want := plainly(a) == plainly(b); view.Same(a, b) != want || view.Same(b, a) != want {
			t.Fatalf("%+v, %+v: not %v", a, b, want)
		}
	}
}

// plainly writes a list out.
func plainly(d []api.Object) string { return fmt.Sprintf("%+v", d) }
