package parse_test

import (
	"reflect"
	"slices"
	"strings"
	"testing"

	"cocoon/api"
	"cocoon/parse"
)

// wide is a text with more than one thing in each list that there can be.
const wide = `drop struct S { a: int, b: &mut box int, c: co f }
struct T { a: S, b: & & S }
enum E { A, B(box int), C(&E) }
enum F { A(int), B }
co f(x: int, y: &mut int, z: box E) {
	let a: &int = &x.f.g.*;
	y.*.f = x.f.g + y.*.*;
	if x.f.g { print x.f.g; drop x; } else { print y.*.*; drop y; }
	while x { yield 1; yield x.f.g; yield 2; }
	match z { A => { drop x; drop y; } B(b) => { drop b; drop z; } C(c) => { if 1 { drop x; drop x; } else { drop y; drop y; } } }
	let s: S = S(x.f.g, y.*.*, 3);
	let e: E = E::B(x.f.g);
	let c: co f = start f(x.f.g, y.*.*, 3);
	return x.f.g;
}
co g() { x = 1; x.a.b.c = box y.a.b.c; return 0; }
`

// memory is from where to where a list's things may stand.
type memory struct{ from, to uintptr }

func memories(l []memory, s api.Source) []memory {
	each(reflect.ValueOf(s), func(v reflect.Value) {
		if v.Cap() > 0 {
			l = append(l, memory{v.Pointer(), v.Pointer() + uintptr(v.Cap())*v.Type().Elem().Size()})
		}
	})
	return l
}

// TestApart: no two lists share any memory, of one answer or of two.
func TestApart(t *testing.T) {
	first, err, _ := parse.Parse(wide)
	second, _, _ := parse.Parse(wide)
	if err != api.OK {
		t.Fatal(err)
	}
	l := memories(memories(nil, first), second)
	if len(l) < 100 {
		t.Errorf("%d lists, too few to tell", len(l))
	}
	slices.SortFunc(l, func(a, b memory) int { return int(a.from) - int(b.from) })
	for i := range len(l) - 1 {
		if l[i].to > l[i+1].from {
			t.Errorf("%v and %v are lists with the same things", l[i], l[i+1])
		}
	}
}

// TestAgain: what is told hangs on the text alone, not on what was read ahead of it, nor on what is done to an answer.
func TestAgain(t *testing.T) {
	first, _, _ := parse.Parse(wide)
	parse.Parse("co f() {" + strings.Repeat("if 1 {", 60))
	second, _, _ := parse.Parse(wide)
	if !reflect.DeepEqual(first, second) {
		t.Errorf("%+v\n%+v", first, second)
	}
	each(reflect.ValueOf(&first).Elem(), func(v reflect.Value) {
		if v.Len() > 1 {
			v.Index(0).Set(v.Index(1))
		}
	})
	third, err, where := parse.Parse(wide)
	if err != api.OK || where != 0 || !reflect.DeepEqual(third, second) {
		t.Errorf("%+v, %v, %d\n%+v", third, err, where, second)
	}
}
