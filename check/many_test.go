package check_test

import (
	"reflect"
	"slices"
	"strconv"
	"testing"

	"cocoon/api"
	"cocoon/check"
	"cocoon/kinds"
)

func itoa(n int) string { return strconv.Itoa(n) }

// made is a source of the items of decls, and of some coroutines more.
func made(t *testing.T, d *dice) (*maker, api.Source) {
	m := &maker{dice: d, model: model{source(t, decls)}}
	m.at = 1000
	for i := range 1 + d.roll(2) {
		m.had = 0
		m.Fns = append(m.Fns, m.coroutine("f"+itoa(i)))
	}
	return m, m.Source
}

// TestMade: what is made with all in its type is right, and the sentences under What holds are so of it.
func TestMade(t *testing.T) {
	d := dice(3)
	for range 400 {
		m, s := made(t, &d)
		was := cloned(s)
		if err, at := check.Check(s); err != api.OK || at != 0 {
			want, where := m.check()
			t.Fatalf("%+v: %v at %d, want %v at %d", s.Fns, err, at, want, where)
		}
		holds(t, m.model)
		if t.Failed() || !reflect.DeepEqual(s, was) {
			t.Fatalf("%+v, was %+v", s, was)
		}
	}
}

// TestModel holds what is told of many sources, most of them wrong, against the model.
func TestModel(t *testing.T) {
	d := dice(5)
	count := map[api.Errno]int{}
	for range 4000 {
		m, s := made(t, &d)
		s = cloned(s)
		for range 1 + d.roll(2) {
			m.spoil(&s.Fns[len(s.Fns)-1-d.roll(len(s.Fns)-2)])
		}
		m.Source = s
		was := cloned(s)
		want, where := m.check()
		if err, at := check.Check(s); err != want || at != where {
			t.Fatalf("%+v: %v at %d, want %v at %d", s.Fns, err, at, want, where)
		}
		count[want]++
		if want == api.OK {
			holds(t, m.model)
		}
		for _, f := range s.Fns {
			if got, want := check.Ends(f.Body), m.ends(f.Body); got != want {
				t.Errorf("%+v ends: %v", f.Body, got)
			}
		}
		if t.Failed() || !reflect.DeepEqual(s, was) {
			t.Fatalf("%+v, was %+v", s, was)
		}
	}
	for _, err := range []api.Errno{api.OK, api.ErrUnknown, api.ErrHold, api.ErrTwice, api.ErrType, api.ErrCount, api.ErrMove, api.ErrVariant, api.ErrPlace, api.ErrEnd} {
		if count[err] < 20 {
			t.Errorf("%d sources with %v, too few to tell", count[err], err)
		}
	}
}

// asker asks about names of all kinds of types, at random.
type asker struct {
	*dice
	l []api.Local
}

func (a asker) place() api.Place {
	p := api.Place{Name: a.l[a.roll(len(a.l))].Name}
	if a.roll(40) == 0 {
		p.Name = "q"
	}
	for range a.roll(4) * a.roll(2) {
		p.Path = append(p.Path, api.Step{Field: a.pick("", "", "", "", "x", "y", "n", "p", "d", "e", "b", "c", "i", "be", "z")})
	}
	return p
}

func (a asker) oper() api.Oper {
	if a.roll(4) == 0 {
		return api.Oper{Num: true, N: a.roll(9)}
	}
	if a.roll(3) == 0 {
		return api.Oper{P: api.Place{Name: a.pick("x", "p", "b", "bs", "e", "d", "s0")}}
	}
	return api.Oper{P: a.place()}
}

func (a asker) set() api.Rv {
	v := api.Rv{K: api.RvKind(a.roll(16)), P: a.place(), Name: a.pick("P", "D", "None", "S", "g", "h"), Variant: a.pick("A", "B", "C", "X", "Y", "G")}
	if v.K == api.RvVariant {
		v.Name = a.pick("E", "E", "F", "P")
	}
	if a.roll(2) == 0 {
		v.P.Path = nil
	}
	n, ok := shown(v.K)
	if !ok {
		n = map[string]int{"P": 2, "D": 1, "S": 8, "h": 3, "E": 1}[v.Name]
	}
	if a.roll(5) == 0 {
		n = a.roll(4)
	}
	for range n {
		v.Ops = append(v.Ops, a.oper())
	}
	return v
}

// TestModelAsks holds what is told of many places, operands and sets against the model.
func TestModelAsks(t *testing.T) {
	d := dice(9)
	m := model{source(t, decls)}
	a := asker{&d, append(names(t, m.Source, "f: F, be: box E, s0: co g, x: P, p: int"), names(t, m.Source, known)...)}
	count := map[api.Errno]int{}
	for range 60000 {
		p, o, v := a.place(), a.oper(), a.set()
		wasV := cloned(v)
		want, wantShared, wrong := m.place(a.l, p)
		if got, shared, err := check.Place(m.Source, a.l, p); err != wrong || shared != wantShared || !alike(got, want) {
			t.Fatalf("%+v is %+v, %v, %v, want %+v, %v, %v", p, got, shared, err, want, wantShared, wrong)
		}
		want, wrong = m.oper(a.l, o)
		if got, err := check.Oper(m.Source, a.l, o); err != wrong || !alike(got, want) {
			t.Fatalf("%+v is %+v, %v, want %+v, %v", o, got, err, want, wrong)
		}
		want, wrong = m.set(a.l, v)
		if got, err := check.Set(m.Source, a.l, v); err != wrong || !alike(got, want) {
			t.Fatalf("%+v is %+v, %v, want %+v, %v", v, got, err, want, wrong)
		}
		if !reflect.DeepEqual(v, wasV) {
			t.Fatalf("%+v, was %+v", v, wasV)
		}
		count[wrong]++
	}
	for _, err := range []api.Errno{api.OK, api.ErrUnknown, api.ErrHold, api.ErrType, api.ErrCount, api.ErrMove, api.ErrVariant, api.ErrPlace} {
		if count[err] < 300 {
			t.Errorf("%d sets with %v, too few to tell", count[err], err)
		}
	}
}

// holds goes through a source that is checked: what is set has the type of where it is set; and it stays so behind more coroutines.
func holds(t *testing.T, m model) {
	t.Helper()
	for _, f := range m.Fns {
		m.held(t, m.with(nil, f.Params...), f.Body)
	}
	more := m.Source
	more.Fns = append(slices.Clone(m.Fns), source(t, "co more(x: int, e: E) { let c: co more = start more(x, e); return x; }").Fns...)
	told(t, "one more", more, api.OK, 0)
	more.Fns = append(more.Fns, source(t, "co wrong() { return 0; print 1; }").Fns...)
	told(t, "a wrong one more", more, api.ErrEnd, 23)
}

// with are names and some more, known behind them.
func (m model) with(l []api.Local, more ...api.Field) []api.Local {
	l = slices.Clone(l)
	for _, x := range more {
		u, _ := kinds.Resolve(m.Source, x.Ty)
		l = append(l, api.Local{Name: x.Name, Ty: u})
	}
	return l
}

func (m model) held(t *testing.T, l []api.Local, row []api.Stmt) {
	t.Helper()
	for _, x := range row {
		place := x.P
		if x.K == api.StLet {
			l, place = m.with(l, api.Field{Name: x.Name, Ty: x.Ty}), api.Place{Name: x.Name}
		}
		if x.K == api.StLet || x.K == api.StSet {
			want, _, err := check.Place(m.Source, l, place)
			if got, wrong := check.Set(m.Source, l, x.Rv); err != api.OK || wrong != api.OK || !alike(got, want) {
				t.Errorf("%+v sets %+v, %v, to %+v, %v", x, want, err, got, wrong)
			}
		}
		m.held(t, l, x.Then)
		m.held(t, l, x.Else)
		if x.K == api.StMatch {
			e, _, _ := check.Place(m.Source, l, x.P)
			for i, v := range m.Enums[kinds.EnumOf(m.Source, e.Name)].Variants {
				m.held(t, m.with(l, api.Field{Name: x.Arms[i].Bind, Ty: v.Ty}), x.Arms[i].Body)
			}
		}
	}
}
