package mir_test

import (
	"reflect"
	"strings"
	"testing"

	"cocoon/api"
	"cocoon/bodies"
	"cocoon/mir"
	"cocoon/parse"
	"cocoon/types"
)

// decls are items that most tests ask about, with a type of each kind among their parts.
const decls = `
struct P { x: int, y: int }
drop struct D { n: int }
struct None {}
struct S { p: P, d: D, e: E, b: box S, c: co g, n: int, i: box int, be: box E }
enum E { A, B(int), C(P), X(box E), Y(F) }
enum F { G }
co g() { return 0; }
co h(a: int, b: box int, e: E) { return a; }
`

// known are the locals of most bodies: the first two are handed in, the result is 21.
const known = `f 2
	0 n int
	1 p P
	2 d D
	3 s S
	4 e E
	5 f F
	6 b box int
	7 bs box S
	8 r &int
	9 m &mut int
	10 rs &S
	11 ms &mut S
	12 c co g
	13 h co h
	14 k int
	15 be box E
	16 o None
	17 bd box D
	18 rb &box S
	19 mb &mut box S
	20 q P
	21  int
`

// source is a text's.
func source(t *testing.T, text string) api.Source {
	t.Helper()
	s, err, at := parse.Parse(text)
	if err != api.OK {
		t.Fatalf("%.300q is no source: %v at %d", text, err, at)
	}
	return s
}

// typed is a text's type, resolved.
func typed(t *testing.T, s api.Source, text string) api.Ty {
	t.Helper()
	u, ok := bodies.Type(s, text)
	if !ok {
		t.Fatalf("%q is no type", text)
	}
	return u
}

// read is the body that a text is of.
func read(t *testing.T, s api.Source, text string) api.Body {
	t.Helper()
	b, ok := bodies.Read(s, text)
	if !ok {
		t.Fatalf("%.3000s is no body", text)
	}
	return b
}

// spot is a text's.
func spot(t *testing.T, text string) api.Spot {
	t.Helper()
	x, ok := bodies.Spot(text)
	if !ok {
		t.Fatalf("%q is no spot", text)
	}
	return x
}

// value is a text's.
func value(t *testing.T, text string) api.Value {
	t.Helper()
	v, ok := bodies.Value(text)
	if !ok {
		t.Fatalf("%q is no value", text)
	}
	return v
}

// body is one of the locals of known, and of blocks.
func body(t *testing.T, blocks string) api.Body {
	t.Helper()
	return read(t, source(t, decls), known+blocks)
}

// oneStep is a body of known with a step alone.
func oneStep(t *testing.T, line string) api.Body {
	t.Helper()
	return body(t, "block 0\n\t"+line+"\n\treturn #0\n")
}

// oneEnd is a body of known with an end, and some blocks more.
func oneEnd(t *testing.T, line string) api.Body {
	t.Helper()
	b := body(t, "block 0\n\t"+line+"\n")
	for range 5 {
		b.Blocks = append(b.Blocks, back())
	}
	return b
}

// back is a block that is right in every body.
func back() api.Block {
	return api.Block{End: api.Tm{K: api.TmReturn, U: api.Use{Num: true}}}
}

func ty(k api.TyKind, name string, l ...api.Ty) api.Ty {
	return api.Ty{K: k, Name: name, L: l}
}

func num() api.Ty { return ty(api.TyInt, "") }

// judged fails, if it is not told of a body that it may be, or may not.
func judged(t *testing.T, about string, s api.Source, b api.Body, want bool) {
	t.Helper()
	if got := mir.Valid(s, b); got != want {
		t.Errorf("%s: valid is %v", about, got)
	}
}

// typeIs fails, if what stands at a spot is not of a type, or reached so; or an error, in the place of the type, is not told.
func typeIs(t *testing.T, s api.Source, b api.Body, x api.Spot, want api.Ty, shared bool, wrong api.Errno) {
	t.Helper()
	got, gotShared, err := mir.Type(s, b, x)
	if !types.Same(got, want) || gotShared != shared || err != wrong {
		t.Errorf("%+v is %+v, %v, %v, want %+v, %v, %v", x, got, gotShared, err, want, shared, wrong)
	}
}

// makes fails, if a value, by its text, is not of a type; one that is wrong has the zero one.
func makes(t *testing.T, s api.Source, b api.Body, text string, want api.Ty, wrong api.Errno) {
	t.Helper()
	valueIs(t, s, b, value(t, text), want, wrong)
}

func valueIs(t *testing.T, s api.Source, b api.Body, v api.Value, want api.Ty, wrong api.Errno) {
	t.Helper()
	if got, err := mir.Value(s, b, v); !types.Same(got, want) || err != wrong {
		t.Errorf("%+v is %+v, %v, want %+v, %v", v, got, err, want, wrong)
	}
}

// lines are those of a text that are not empty.
func lines(text string) []string {
	var l []string
	for _, x := range strings.Split(text, "\n") {
		if x != "" {
			l = append(l, x)
		}
	}
	return l
}

// cloned is a value in lists of its own, at any depth.
func cloned[T any](x T) T {
	y := x
	apart(reflect.ValueOf(&y).Elem())
	return y
}

func apart(v reflect.Value) {
	switch v.Kind() {
	case reflect.Struct:
		for i := range v.NumField() {
			apart(v.Field(i))
		}
	case reflect.Slice:
		if v.IsNil() {
			return
		}
		l := reflect.MakeSlice(v.Type(), v.Len(), v.Len())
		reflect.Copy(l, v)
		v.Set(l)
		for i := range v.Len() {
			apart(v.Index(i))
		}
	}
}
