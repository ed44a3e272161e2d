package build_test

import (
	"reflect"

	"cocoon/api"
)

// leaves are all numbers, bools, texts and lists in a thing, behind some.
func leaves(l []reflect.Value, v reflect.Value) []reflect.Value {
	if v.Kind() == reflect.Struct {
		for i := range v.NumField() {
			l = leaves(l, v.Field(i))
		}
		return l
	}
	l = append(l, v)
	if v.Kind() == reflect.Slice {
		for i := range v.Len() {
			l = leaves(l, v.Index(i))
		}
	}
	return l
}

// spoil changes one thing in a source: mostly in a coroutine, so that it may be as right as it was.
func spoil(d *dice, s *api.Source) {
	in := reflect.ValueOf(s).Elem()
	if d.roll(4) > 0 {
		in = reflect.ValueOf(&s.Fns[0].Body).Elem()
	}
	l := leaves(nil, in)
	v := l[d.roll(len(l))]
	other := l[d.roll(len(l))]
	for range 40 {
		if other.Type() == v.Type() && other.Kind() != reflect.Bool {
			break
		}
		other = l[d.roll(len(l))]
	}
	switch v.Kind() {
	case reflect.Bool:
		v.SetBool(!v.Bool())
	case reflect.Int:
		if d.roll(2) == 0 && other.Type() == v.Type() {
			v.SetInt(other.Int())
		} else {
			v.SetInt(v.Int() + int64(d.roll(3)) - 1)
		}
	case reflect.String:
		if other.Type() == v.Type() {
			v.SetString(other.String())
		}
	case reflect.Slice:
		spoilList(d, v, other)
	}
}

func spoilList(d *dice, v, other reflect.Value) {
	n := v.Len()
	switch k := d.roll(4); {
	case k == 0 && other.Type() == v.Type():
		v.Set(copied(other))
	case k == 1 || n == 0:
		one := reflect.New(v.Type().Elem()).Elem()
		if n > 0 {
			one.Set(copied(v.Index(d.roll(n))))
		}
		v.Set(reflect.Append(v, one))
	case k == 2:
		i := d.roll(n)
		v.Set(reflect.AppendSlice(v.Slice3(0, i, i), v.Slice(i+1, n)))
	default:
		i, j := d.roll(n), d.roll(n)
		one, two := copied(v.Index(i)), copied(v.Index(j))
		v.Index(i).Set(two)
		v.Index(j).Set(one)
	}
}

// copied is a value in lists of its own.
func copied(v reflect.Value) reflect.Value {
	x := reflect.New(v.Type()).Elem()
	x.Set(v)
	eachList(x, func(v reflect.Value) {
		l := reflect.MakeSlice(v.Type(), v.Len(), v.Len())
		reflect.Copy(l, v)
		v.Set(l)
	})
	return x
}
