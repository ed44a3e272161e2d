package tree_test

import (
	"math"
	"reflect"
	"strings"
	"testing"

	"cocoon/api"
	"cocoon/tree"
)

// dice are numbers one behind the other, always the same ones.
type dice uint64

func (d *dice) roll(n int) int {
	*d = *d*6364136223846793005 + 1442695040888963407
	return int(uint64(*d) >> 33 % uint64(n))
}

func (d *dice) pick(all ...string) string { return all[d.roll(len(all))] }

func (d *dice) small() string { return d.pick("a", "b", "x", "y_1", "lets") }

func (d *dice) great() string { return d.pick("A", "B", "S", "E_2", "Let") }

// some is a list of some things, each made anew.
func some[T any](d *dice, most int, one func() T) []T {
	var l []T
	for range d.roll(most + 1) {
		l = append(l, one())
	}
	return l
}

func (d *dice) ty() api.Ty {
	switch d.roll(7) {
	case 0, 1:
		return ty(api.TyInt, "")
	case 2, 3:
		return ty(api.TyStruct, d.great())
	case 4:
		return ty(api.TyCo, d.small())
	}
	return ty(api.TyBox+api.TyKind(d.roll(3)), "", d.ty())
}

func (d *dice) field() api.Field { return field(d.small(), d.ty()) }

func (d *dice) place() api.Place {
	return api.Place{Name: d.small(), Path: some(d, 2, func() api.Step { return api.Step{Field: d.pick("", d.small())} })}
}

func (d *dice) oper() api.Oper {
	if d.roll(2) == 0 {
		return api.Oper{P: d.place()}
	}
	return number([]int{0, 1, -1, 42, math.MaxInt, math.MinInt + 1}[d.roll(6)])
}

func (d *dice) set() api.Rv {
	k := api.RvKind(d.roll(int(api.RvWait) + 1))
	v := api.Rv{K: k}
	switch k {
	case api.RvRef, api.RvMut:
		v.P = d.place()
	case api.RvUnbox, api.RvAwait, api.RvPoll:
		v.P = place(d.small())
	case api.RvMake:
		v.Name, v.Ops = d.great(), some(d, 3, d.oper)
	case api.RvVariant:
		v.Name, v.Variant, v.Ops = d.great(), d.great(), some(d, 1, d.oper)
	case api.RvStart:
		v.Name, v.Ops = d.small(), some(d, 3, d.oper)
	case api.RvUse, api.RvBox, api.RvWait:
		v.Ops = []api.Oper{d.oper()}
	default:
		v.Ops = []api.Oper{d.oper(), d.oper()}
	}
	return v
}

func (d *dice) row(deep int) []api.Stmt {
	return some(d, max(0, 4-deep), func() api.Stmt { return d.stmt(deep) })
}

func (d *dice) stmt(deep int) api.Stmt {
	s := api.Stmt{K: api.StKind(d.roll(int(api.StDrop) + 1)), At: d.roll(1000)}
	switch s.K {
	case api.StLet:
		s.Name, s.Ty, s.Rv = d.small(), d.ty(), d.set()
	case api.StSet:
		s.P, s.Rv = d.place(), d.set()
	case api.StIf:
		s.Op, s.Then, s.Else = d.oper(), d.row(deep+1), d.row(deep+1)
	case api.StWhile:
		s.Op, s.Then = d.oper(), d.row(deep+1)
	case api.StMatch:
		s.P = place(d.small())
		s.Arms = some(d, 2, func() api.Arm { return api.Arm{Variant: d.great(), Bind: d.pick("", d.small()), Body: d.row(deep + 1)} })
	case api.StDrop:
		s.P = place(d.small())
	default:
		s.Op = d.oper()
	}
	return s
}

// source is one that could have been read.
func (d *dice) source() api.Source {
	return api.Source{
		Structs: some(d, 2, func() api.Struct {
			return api.Struct{Name: d.great(), Drop: d.roll(2) == 0, Fields: some(d, 3, d.field), At: d.roll(1000)}
		}),
		Enums: some(d, 2, func() api.Enum {
			return api.Enum{Name: d.great(), Variants: some(d, 3, d.variant), At: d.roll(1000)}
		}),
		Fns: some(d, 2, func() api.Fn {
			return api.Fn{Name: d.small(), Params: some(d, 3, d.field), Body: d.row(1), At: d.roll(1000)}
		}),
	}
}

func (d *dice) variant() api.Variant {
	v := api.Variant{Name: d.great()}
	if d.roll(2) == 0 {
		v.Ty = d.ty()
	}
	return v
}

// spoil gives one field, or one list, of a source another value; mostly one that can't stand there.
func (d *dice) spoil(s *api.Source) {
	l := leavesOf(s)
	v := l[d.roll(len(l))].v
	switch v.Kind() {
	case reflect.String:
		v.SetString(d.pick("", "a", "A", "f", "let", "mut", "int", "x.y", "1", "-1", "_", "?", "x: int", "x y", "A(B)", "{}", "a//", strings.Repeat("n", 25)))
	case reflect.Int:
		v.SetInt([]int64{0, 0, 1, 1, 2, 3, 4, 5, 6, 7, 8, 9, 10, 12, 15, 16, -1, math.MinInt, math.MaxInt}[d.roll(19)])
	case reflect.Bool:
		v.SetBool(!v.Bool())
	case reflect.Slice:
		d.spoilList(v)
	}
}

func (d *dice) spoilList(v reflect.Value) {
	switch was := copied(v); d.roll(4) {
	case 0:
		v.SetZero()
	case 1:
		v.Set(reflect.AppendSlice(was, was))
	case 2:
		v.Set(reflect.Append(was, reflect.Zero(v.Type().Elem())))
	case 3:
		more := reflect.New(v.Type().Elem()).Elem()
		fill(more, 1)
		v.Set(reflect.Append(was, more))
	}
}

// looks fails, if a line of a valid source's text stands not as far in as the braces that are open there, or has a blank at its end.
func looks(t *testing.T, text string) {
	t.Helper()
	if text != "" && !strings.HasSuffix(text, "\n") {
		t.Errorf("%q does not end its last line", text)
	}
	open := 0
	for line := range strings.Lines(text) {
		line = strings.TrimSuffix(line, "\n")
		rest := strings.TrimLeft(line, "\t")
		if strings.HasPrefix(rest, "}") {
			open--
		}
		if rest == "" || len(line)-len(rest) != open || strings.TrimSpace(rest) != rest || strings.Contains(rest, "  ") || strings.Contains(rest, "\t") {
			t.Errorf("%q in %q", line, text)
		}
		if strings.HasSuffix(rest, "{") {
			open++
		}
	}
	if open != 0 {
		t.Errorf("%d braces are open in %q", open, text)
	}
}

// TestRead: what could have been read is valid, and its text is read as it.
func TestRead(t *testing.T) {
	d := dice(5)
	kinds := map[api.StKind]int{}
	for range 4000 {
		s := d.source()
		for _, f := range s.Fns {
			for _, x := range f.Body {
				kinds[x.K]++
			}
		}
		valid(t, s, true)
		looks(t, tree.Text(s))
		if t.Failed() {
			return
		}
	}
	for k := api.StLet; k <= api.StDrop; k++ {
		if kinds[k] < 100 {
			t.Errorf("kind %d: %d statements, too few to tell", k, kinds[k])
		}
	}
}

// TestSpoilt: of sources that were spoilt, those are valid that are what their texts are read as; and no call changes what it is handed.
func TestSpoilt(t *testing.T) {
	d := dice(55)
	count := map[bool]int{}
	texts := map[string]api.Source{}
	for range 12000 {
		s := d.source()
		for range 1 + d.roll(3) {
			d.spoil(&s)
		}
		was := twin(s)
		wanted := readable(s)
		count[wanted]++
		valid(t, s, wanted)
		same(t, "a twin", s, was, true)
		if !reflect.DeepEqual(s, was) {
			t.Errorf("%+v was changed", was)
		}
		if other, ok := texts[tree.Text(s)]; wanted && ok {
			same(t, "what is valid, and has the same text", s, other, true)
		}
		if wanted {
			texts[tree.Text(s)] = s
		}
		if t.Failed() {
			return
		}
	}
	if count[true] < 1000 || count[false] < 1000 {
		t.Errorf("%v: too few to tell", count)
	}
}

// TestPairs: two sources with a difference, or only with another way to say the same; what is the same has the same text.
func TestPairs(t *testing.T) {
	d := dice(555)
	count := map[bool]int{}
	for range 6000 {
		a := d.source()
		b := twin(a)
		d.spoil(&b)
		alike := reflect.DeepEqual(plain(a), plain(b))
		count[alike]++
		same(t, "two", a, b, alike)
		if tree.Valid(a) && tree.Valid(b) && (tree.Text(a) == tree.Text(b)) != alike {
			t.Errorf("%+v and %+v: both are valid, and their texts tell another thing than what they are", a, b)
		}
		if t.Failed() {
			return
		}
	}
	if count[true] < 200 || count[false] < 1000 {
		t.Errorf("%v: too few to tell", count)
	}
}

// plain is a source without what Same does not look at: where things stand, and how lists without things are told.
func plain(s api.Source) api.Source {
	s = twin(s)
	for _, x := range leavesOf(&s) {
		if x.at || x.v.Kind() == reflect.Slice && x.v.Len() == 0 {
			x.v.SetZero()
		}
	}
	return s
}
