package check_test

import (
	"reflect"
	"strings"
	"testing"

	"cocoon/api"
	"cocoon/check"
	"cocoon/kinds"
	"cocoon/parse"
)

// decls are items that most tests ask about, with a type of each kind among their parts.
const decls = `
struct P { x: int, y: int }
drop struct D { n: int }
struct None {}
struct S { p: P, d: D, e: E, b: box S, c: co g, n: int, i: box int, be: box E }
enum E { A, B(int), C(P), X(box E), Y(F) }
enum F { G }
co g() { return 0; }
co h(a: int, b: box int, e: E) { return a; }
`

// source is a text's.
func source(t *testing.T, text string) api.Source {
	t.Helper()
	s, err, at := parse.Parse(text)
	if err != api.OK {
		t.Fatalf("%.300q is no source: %v at %d", text, err, at)
	}
	return s
}

// names are those of a text like parameters, each with its type, resolved.
func names(t *testing.T, s api.Source, text string) []api.Local {
	t.Helper()
	var l []api.Local
	for _, f := range source(t, "co f("+text+") {}").Fns[0].Params {
		u, err := kinds.Resolve(s, f.Ty)
		if err != api.OK {
			t.Fatalf("%q: %v", text, err)
		}
		l = append(l, api.Local{Name: f.Name, Ty: u})
	}
	return l
}

// typed is a text's type, resolved.
func typed(t *testing.T, s api.Source, text string) api.Ty {
	t.Helper()
	return names(t, s, "x: "+text)[0].Ty
}

// stmt is a text's first statement.
func stmt(t *testing.T, text string) api.Stmt {
	t.Helper()
	return source(t, "co f() { "+text+" }").Fns[0].Body[0]
}

func place(t *testing.T, text string) api.Place {
	t.Helper()
	return stmt(t, text+" = 1;").P
}

func oper(t *testing.T, text string) api.Oper {
	t.Helper()
	return stmt(t, "print "+text+";").Op
}

// set is what a text sets; of a name alone also with steps, which no text has there.
func set(t *testing.T, text string) api.Rv {
	t.Helper()
	word, rest, _ := strings.Cut(text, " ")
	switch word {
	case "unbox":
		return api.Rv{K: api.RvUnbox, P: place(t, rest)}
	case "await":
		return api.Rv{K: api.RvAwait, P: place(t, rest)}
	case "poll":
		return api.Rv{K: api.RvPoll, P: place(t, rest)}
	}
	return stmt(t, "x = "+text+";").Rv
}

func ty(k api.TyKind, name string, l ...api.Ty) api.Ty {
	return api.Ty{K: k, Name: name, L: l}
}

func num() api.Ty { return ty(api.TyInt, "") }

// alike tells whether two types are the same in all; lists without things are alike.
func alike(a, b api.Ty) bool {
	if a.K != b.K || a.Name != b.Name || len(a.L) != len(b.L) {
		return false
	}
	for i := range a.L {
		if !alike(a.L[i], b.L[i]) {
			return false
		}
	}
	return true
}

// checked fails, if the check of a text does not tell this error at its mark ^; or OK, if it has no mark.
func checked(t *testing.T, text string, wanted api.Errno) {
	t.Helper()
	where := max(strings.Index(text, "^"), 0)
	told(t, text, source(t, strings.Replace(text, "^", "", 1)), wanted, where)
}

// inDecls is so of the body of a coroutine f behind the items of decls; with its mark, too.
func inDecls(t *testing.T, params, body string, wanted api.Errno) {
	t.Helper()
	checked(t, decls+"co f("+params+") { "+body+" }", wanted)
}

func told(t *testing.T, about string, s api.Source, wanted api.Errno, where int) {
	t.Helper()
	if err, at := check.Check(s); err != wanted || at != where {
		t.Errorf("%.600q: %v at %d, want %v at %d", about, err, at, wanted, where)
	}
}

// cloned is a value in lists of its own, at any depth.
func cloned[T any](x T) T {
	y := x
	apart(reflect.ValueOf(&y).Elem())
	return y
}

func apart(v reflect.Value) {
	switch v.Kind() {
	case reflect.Struct:
		for i := range v.NumField() {
			apart(v.Field(i))
		}
	case reflect.Slice:
		if v.IsNil() {
			return
		}
		l := reflect.MakeSlice(v.Type(), v.Len(), v.Len())
		reflect.Copy(l, v)
		v.Set(l)
		for i := range v.Len() {
			apart(v.Index(i))
		}
	}
}
