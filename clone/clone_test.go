package clone_test

import (
	"reflect"
	"testing"

	"archivum/api"
	"archivum/clone"
)

// fill gives a value something in every field, and two elements in every list.
func fill(v reflect.Value, n *int) {
	*n++
	switch v.Kind() {
	case reflect.Struct:
		for i := range v.NumField() {
			fill(v.Field(i), n)
		}
	case reflect.Slice:
		v.Set(reflect.MakeSlice(v.Type(), 2, 5))
		for i := range v.Len() {
			fill(v.Index(i), n)
		}
	case reflect.Int:
		v.SetInt(int64(*n))
	case reflect.String:
		v.SetString(string(rune('a' + *n%26)))
	case reflect.Bool:
		v.SetBool(true)
	}
}

// lists adds the addresses of all lists in a value.
func lists(v reflect.Value, all map[uintptr]bool) {
	switch v.Kind() {
	case reflect.Struct:
		for i := range v.NumField() {
			lists(v.Field(i), all)
		}
	case reflect.Slice:
		if v.Cap() > 0 {
			all[v.Pointer()] = true
		}
		for i := range v.Len() {
			lists(v.Index(i), all)
		}
	}
}

// P14.2, P14.3: a copy has the same values, and no list of it is one of the other.
func TestRegistry(t *testing.T) {
	var r api.Registry
	n := 0
	fill(reflect.ValueOf(&r).Elem(), &n)
	copied := clone.Registry(r)
	if !reflect.DeepEqual(r, copied) {
		t.Errorf("%+v", copied)
	}
	old, fresh := map[uintptr]bool{}, map[uintptr]bool{}
	lists(reflect.ValueOf(r), old)
	lists(reflect.ValueOf(copied), fresh)
	if len(old) != 25 || len(fresh) != 25 {
		t.Error(len(old), len(fresh))
	}
	for p := range fresh {
		if old[p] {
			t.Error("a list is shared")
		}
	}
	if !reflect.DeepEqual(clone.Registry(api.Registry{}), api.Registry{}) {
		t.Error("the empty registry is not empty")
	}
}
