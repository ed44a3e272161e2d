package tree_test

import (
	"reflect"
	"testing"

	"cocoon/api"
	"cocoon/tree"
)

// fill gives every field of a value something, lists a thing each, down to so many levels.
func fill(v reflect.Value, levels int) {
	switch v.Kind() {
	case reflect.String:
		v.SetString("x")
	case reflect.Int:
		v.SetInt(1)
	case reflect.Bool:
		v.SetBool(true)
	case reflect.Slice:
		if levels > 0 {
			v.Set(reflect.MakeSlice(v.Type(), 1, 1))
			fill(v.Index(0), levels-1)
		}
	case reflect.Struct:
		for i := range v.NumField() {
			fill(v.Field(i), levels)
		}
	}
}

// full is a source where nothing is empty, so many levels down.
func full(levels int) api.Source {
	var s api.Source
	fill(reflect.ValueOf(&s).Elem(), levels)
	return s
}

// leaf is a field or a thing of a list, somewhere in a source, and whether it is only told where something stands.
type leaf struct {
	path string
	v    reflect.Value
	at   bool
}

// leaves are all strings, numbers, bools and lists in a value.
func leaves(v reflect.Value, path string) []leaf {
	switch v.Kind() {
	case reflect.Slice:
		l := []leaf{{path, v, false}}
		for i := range v.Len() {
			l = append(l, leaves(v.Index(i), path+"[]")...)
		}
		return l
	case reflect.Struct:
		var l []leaf
		for i := range v.NumField() {
			name := v.Type().Field(i).Name
			inner := leaves(v.Field(i), path+"."+name)
			if name == "At" {
				inner[0].at = true
			}
			l = append(l, inner...)
		}
		return l
	}
	return []leaf{{path, v, false}}
}

func leavesOf(s *api.Source) []leaf {
	return leaves(reflect.ValueOf(s).Elem(), "")
}

// copied is a value that shares nothing with another one.
func copied(v reflect.Value) reflect.Value {
	c := reflect.New(v.Type()).Elem()
	c.Set(v)
	switch v.Kind() {
	case reflect.Slice:
		if !v.IsNil() {
			c.Set(reflect.MakeSlice(v.Type(), v.Len(), v.Len()))
		}
		for i := range v.Len() {
			c.Index(i).Set(copied(v.Index(i)))
		}
	case reflect.Struct:
		for i := range v.NumField() {
			c.Field(i).Set(copied(v.Field(i)))
		}
	}
	return c
}

func twin(s api.Source) api.Source {
	return copied(reflect.ValueOf(s)).Interface().(api.Source)
}

// same fails, if another thing is told of two sources, or if those that are the same have not the same text.
func same(t *testing.T, what string, a, b api.Source, wanted bool) {
	t.Helper()
	if tree.Same(a, b) != wanted || tree.Same(b, a) != wanted {
		t.Errorf("%s: %v, %v", what, tree.Same(a, b), tree.Same(b, a))
	}
	if wanted && tree.Text(a) != tree.Text(b) {
		t.Errorf("%s: the texts are %q, %q", what, tree.Text(a), tree.Text(b))
	}
}

// changes are a leaf's other values, one behind the other; none is the first one.
func changes(v reflect.Value) []reflect.Value {
	was := copied(v)
	switch v.Kind() {
	case reflect.String:
		return []reflect.Value{reflect.ValueOf("y"), reflect.ValueOf(""), reflect.ValueOf("X"), reflect.ValueOf("x ")}
	case reflect.Int:
		var l []reflect.Value
		for _, n := range []int64{0, 2, -1, -1 << 63, 1<<63 - 1, 1 + 1<<32} {
			l = append(l, reflect.ValueOf(n).Convert(v.Type()))
		}
		return l
	case reflect.Bool:
		return []reflect.Value{reflect.ValueOf(!v.Bool())}
	}
	l := []reflect.Value{reflect.Append(was, reflect.Zero(v.Type().Elem()))}
	if v.Len() > 0 {
		l = append(l, reflect.Zero(v.Type()), was.Slice(0, v.Len()-1), reflect.AppendSlice(was, was))
	}
	return l
}

// TestSame: any field and any list that is another one makes another source, but not where things stand.
func TestSame(t *testing.T) {
	s, seen := full(4), map[string]int{}
	same(t, "a twin", s, twin(s), true)
	other := twin(s)
	for _, x := range leavesOf(&other) {
		seen[x.path]++
		was := reflect.New(x.v.Type()).Elem()
		was.Set(x.v)
		for _, y := range changes(x.v) {
			x.v.Set(y)
			same(t, x.path, s, other, x.at)
		}
		x.v.Set(was)
	}
	same(t, "all is as it was", s, other, true)
	for _, x := range []string{
		".Structs", ".Structs[].Drop", ".Structs[].At", ".Structs[].Fields[].Ty.L[].L[].Name", ".Enums[].Variants[].Ty.K",
		".Enums[].At", ".Fns[].At", ".Fns[].Params[].Name", ".Fns[].Body[].At", ".Fns[].Body[].Rv.Ops[].P.Path", ".Fns[].Body[].Rv.Variant",
		".Fns[].Body[].Then[].Else[].Op.N", ".Fns[].Body[].Arms[].Body[].At", ".Fns[].Body[].P.Path[].Field",
	} {
		if seen[x] == 0 {
			t.Errorf("%s is not asked", x)
		}
	}
}

// TestSameEmpty: a list without things is the same as none, wherever it stands.
func TestSameEmpty(t *testing.T) {
	same(t, "nothing", api.Source{}, api.Source{}, true)
	for levels := range 4 {
		s := full(levels)
		other := twin(s)
		for _, x := range leavesOf(&other) {
			if x.v.Kind() == reflect.Slice && x.v.Len() == 0 {
				x.v.Set(reflect.MakeSlice(x.v.Type(), 0, 3))
			}
		}
		same(t, "of no things", s, other, true)
	}
}

// TestSameOrder: lists in another order are others.
func TestSameOrder(t *testing.T) {
	a, b := api.Struct{Name: "A"}, api.Struct{Name: "B"}
	same(t, "structs", api.Source{Structs: []api.Struct{a, b}}, api.Source{Structs: []api.Struct{b, a}}, false)
	e, f := api.Enum{Name: "A"}, api.Enum{Name: "B"}
	same(t, "enums", api.Source{Enums: []api.Enum{e, f}}, api.Source{Enums: []api.Enum{f, e}}, false)
	same(t, "statements", inRow(prints(1), prints(2)), inRow(prints(2), prints(1)), false)
	same(t, "a struct, and an enum", api.Source{Structs: []api.Struct{a}}, api.Source{Enums: []api.Enum{e}}, false)
}

// TestSameText: what has the same text needs not to be the same, if it is not valid.
func TestSameText(t *testing.T) {
	let := func(x api.Ty, v api.Rv) api.Source {
		return inRow(api.Stmt{K: api.StLet, Name: "a", Ty: x, Rv: v})
	}
	num, use := ty(api.TyInt, ""), set(api.RvUse, number(1))
	for _, x := range []struct{ a, b api.Source }{
		{let(ty(api.TyStruct, "E"), use), let(ty(api.TyEnum, "E"), use)},
		{let(num, use), let(ty(api.TyStruct, "int"), use)},
		{let(num, use), let(num, set(api.RvUse, at("1")))},
		{let(num, use), let(num, set(api.RvUse, number(1), number(2)))},
		{let(num, use), let(num, api.Rv{Ops: use.Ops, Name: "S"})},
		{let(num, use), let(num, set(api.RvUse, api.Oper{Num: true, N: 1, P: place("x")}))},
		{inRow(prints(1)), inRow(api.Stmt{K: api.StPrint, Op: number(1), Name: "a"})},
		{inRow(prints(1), prints(2)), inRow(api.Stmt{K: api.StPrint, Op: at("1;\n\tprint 2")})},
	} {
		text(t, tree.Text(x.a), tree.Text(x.b))
		same(t, tree.Text(x.a), x.a, x.b, false)
		if !tree.Valid(x.a) || tree.Valid(x.b) {
			t.Errorf("%q: both, or none, are valid", tree.Text(x.a))
		}
	}
}

// TestSameDeep: as many levels as the document names, with another thing at their end, or not.
func TestSameDeep(t *testing.T) {
	const most = 1 << 16
	deep := func(name string) api.Source {
		x, body := ty(api.TyStruct, name), []api.Stmt{prints(len(name))}
		for range most {
			x, body = ty(api.TyRef, "", x), []api.Stmt{{K: api.StWhile, Op: number(0), Then: body}}
		}
		s := inRow(body...)
		s.Fns[0].Params = []api.Field{field("x", x)}
		return s
	}
	a, b, c := deep("A"), deep("A"), deep("AB")
	if !tree.Same(a, b) || tree.Same(a, c) {
		t.Error("deep sources are told wrong")
	}
	c.Fns[0].Params = a.Fns[0].Params
	if tree.Same(a, c) {
		t.Error("deep statements are told wrong")
	}
	if tree.Valid(a) {
		t.Error("what is too deep is valid")
	}
}
