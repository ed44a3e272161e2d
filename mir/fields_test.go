package mir_test

import (
	"reflect"
	"slices"
	"strings"
	"testing"

	"cocoon/api"
)

// leaf is a field that has none itself: a number, a bool, a list.
type leaf struct {
	name  string
	value reflect.Value
}

func leaves(name string, v reflect.Value) []leaf {
	if v.Kind() != reflect.Struct {
		return []leaf{{name, v}}
	}
	var l []leaf
	for i := range v.NumField() {
		in := v.Type().Field(i).Name
		if name != "" {
			in = name + "." + in
		}
		l = append(l, leaves(in, v.Field(i))...)
	}
	return l
}

// others are values that a leaf may have beside its own.
func others(v reflect.Value) []reflect.Value {
	var l []reflect.Value
	switch v.Kind() {
	case reflect.Bool:
		return append(l, reflect.ValueOf(!v.Bool()))
	case reflect.Int:
		for _, n := range []int64{v.Int() + 1, -1} {
			l = append(l, reflect.ValueOf(n).Convert(v.Type()))
		}
	case reflect.Slice:
		one := reflect.New(v.Type().Elem()).Elem()
		l = append(l, reflect.Append(v.Slice3(0, v.Len(), v.Len()), one))
	}
	return l
}

// eachField sets each field of a step, or of an end, of a body that is right: where it stands may be anything, what it tells of may be something else; all else may not.
func eachField(t *testing.T, about, told string, b api.Body, of func(*api.Body) any, s api.Source) {
	t.Helper()
	judged(t, about, s, b, true)
	names := strings.Fields(told)
	for i, x := range leaves("", reflect.ValueOf(of(&b)).Elem()) {
		if x.name == "K" || slices.Contains(names, x.name) {
			continue
		}
		for _, v := range others(x.value) {
			c := cloned(b)
			leaves("", reflect.ValueOf(of(&c)).Elem())[i].value.Set(v)
			judged(t, about+" with another "+x.name, s, c, x.name == "At")
		}
	}
}
