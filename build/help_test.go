package build_test

import (
	"reflect"
	"slices"
	"strconv"
	"strings"
	"testing"

	"cocoon/api"
	"cocoon/build"
	"cocoon/mir"
	"cocoon/parse"
)

// decls stand behind the coroutines that most tests ask about; of each kind of type there is one among their parts.
const decls = `
struct P { x: int, y: int }
drop struct D { n: int }
struct S { n: int, p: P, d: D, e: E, b: box S, i: box int, c: co h }
struct None {}
enum E { A, B(int), C(P), X(box E), Y(F), Z(D) }
enum F { G }
co g() { return 0; }
co h(a: int, d: D, e: E) { return a; }
`

func itoa(n int) string { return strconv.Itoa(n) }

// source is a text's.
func source(t *testing.T, text string) api.Source {
	t.Helper()
	s, err, at := parse.Parse(text)
	if err != api.OK {
		t.Fatalf("%.300q is no source: %v at %d", text, err, at)
	}
	return s
}

// told is a body's text, with where each step and each end stands behind it.
func told(b api.Body, where func(int) string) string {
	l := strings.Split(strings.TrimSuffix(mir.Text(b), "\n"), "\n")
	n := 1 + len(b.Locals)
	for _, x := range b.Blocks {
		n++
		for _, y := range x.Ins {
			l[n] += " @" + where(y.At)
			n++
		}
		l[n] += " @" + where(x.End.At)
		n++
	}
	return strings.Join(l, "\n") + "\n"
}

// onLine tells places of a text by their lines, counted from 1 on: each must be the first of its line, but for tabs.
func onLine(t *testing.T, text string) func(int) string {
	return func(at int) string {
		t.Helper()
		if at < 0 || at >= len(text) {
			t.Errorf("%d is no place of the text", at)
			return "?"
		}
		ahead := text[:at]
		if trimmed := strings.TrimRight(ahead, "\t"); trimmed != "" && !strings.HasSuffix(trimmed, "\n") || text[at] == '\t' {
			t.Errorf("at %d nothing begins", at)
		}
		return itoa(1 + strings.Count(ahead, "\n"))
	}
}

// isBuilt fails, if the first coroutine of a text is not built as such a body.
func isBuilt(t *testing.T, about, text, want string) {
	t.Helper()
	text, want = strings.TrimPrefix(text, "\n"), strings.TrimPrefix(want, "\n")
	s := source(t, text+decls)
	b := build.Body(s, 0)
	if got := told(b, onLine(t, text)); got != want {
		t.Errorf("%s: %s\nwant %s", about, got, want)
	}
	holds(t, about, s, b)
}

// holds fails, if a body is not mir.Valid, or a local is not live where it is used.
func holds(t *testing.T, about string, s api.Source, b api.Body) {
	t.Helper()
	if !mir.Valid(s, b) {
		t.Errorf("%s may not be:\n%s", about, mir.Text(b))
		return
	}
	lives(t, about, b)
}

// alike tells whether two things are the same in all; lists without things are alike.
func alike[T any](a, b T) bool {
	return same(reflect.ValueOf(a), reflect.ValueOf(b))
}

func same(a, b reflect.Value) bool {
	switch a.Kind() {
	case reflect.Struct:
		for i := range a.NumField() {
			if !same(a.Field(i), b.Field(i)) {
				return false
			}
		}
		return true
	case reflect.Slice:
		if a.Len() != b.Len() {
			return false
		}
		for i := range a.Len() {
			if !same(a.Index(i), b.Index(i)) {
				return false
			}
		}
		return true
	}
	return a.Equal(b)
}

// cloned is a value in lists of its own, at any depth.
func cloned[T any](x T) T {
	y := x
	eachList(reflect.ValueOf(&y).Elem(), func(v reflect.Value) {
		l := reflect.MakeSlice(v.Type(), v.Len(), v.Len())
		reflect.Copy(l, v)
		v.Set(l)
	})
	return y
}

// eachList looks at all lists of a thing that are not nil, from the outside in.
func eachList(v reflect.Value, look func(reflect.Value)) {
	switch v.Kind() {
	case reflect.Struct:
		for i := range v.NumField() {
			eachList(v.Field(i), look)
		}
	case reflect.Slice:
		if v.IsNil() {
			return
		}
		look(v)
		for i := range v.Len() {
			eachList(v.Index(i), look)
		}
	}
}

// shared tells whether two of all lists of some things have memory in common.
func shared(things ...any) bool {
	type piece struct{ from, to uintptr }
	var l []piece
	for _, x := range things {
		eachList(reflect.ValueOf(x).Elem(), func(v reflect.Value) {
			if n := uintptr(v.Cap()) * v.Type().Elem().Size(); n > 0 {
				l = append(l, piece{v.Pointer(), v.Pointer() + n})
			}
		})
	}
	slices.SortFunc(l, func(a, b piece) int { return int(int64(a.from) - int64(b.from)) })
	for i := range l[min(1, len(l)):] {
		if l[i].to > l[i+1].from {
			return true
		}
	}
	return false
}
