package kinds_test

import (
	"reflect"
	"strconv"
	"testing"

	"cocoon/api"
	"cocoon/kinds"
)

// dice are numbers one behind the other, always the same ones.
type dice uint64

func (d *dice) roll(n int) int {
	*d = *d*6364136223846793005 + 1442695040888963407
	return int(uint64(*d) >> 33 % uint64(n))
}

func (d *dice) pick(all ...string) string { return all[d.roll(len(all))] }

// decls are what a source is made of: how many names there are to have, and how seldom something is odd.
type decls struct {
	*dice
	names, seldom int
}

// odd tells whether something odd is to stand here.
func (d decls) odd() bool { return d.roll(d.seldom) == 0 }

func (d decls) great() string { return "ABCDEFGHIJKLMNOP"[d.roll(d.names):][:1] }

// ty is a type that holds no reference, mostly; at an item's place those behind it are named more often than others, so that most sources have an end.
func (d decls) ty(place int) api.Ty {
	if d.odd() {
		l := []api.Ty{d.ty(place), d.ty(place)}
		return ty(api.TyKind(d.roll(10)-1), d.pick("", d.great(), "f"), l[d.roll(3):]...)
	}
	name := d.great()
	if place+1 < d.names && d.roll(12) > 0 {
		name = "ABCDEFGHIJKLMNOP"[place+1+d.roll(d.names-place-1):][:1]
	}
	switch d.roll(8) {
	case 0, 1:
		return num()
	case 2:
		return ty(api.TyBox, "", d.ty(-1))
	case 3:
		return ty(api.TyCo, d.pick("f", "g"))
	}
	return ty(api.TyStruct, name)
}

// fields are some with names of their own, mostly; and now and then many of them.
func (d decls) fields(place int) []api.Field {
	n := d.roll(4)
	if d.roll(5) == 0 {
		n = 10 + d.roll(90)
	}
	if d.roll(150) == 0 {
		n = 199 + d.roll(4)
	}
	one := d.ty(place)
	var l []api.Field
	for i := range n {
		if n < 6 {
			one = d.ty(place)
		}
		name := "f" + strconv.Itoa(i)
		if n < 6 && d.odd() {
			name = "f0"
		}
		l = append(l, api.Field{Name: name, Ty: one})
	}
	return l
}

func (d decls) variants(place int) []api.Variant {
	l := []api.Variant{{Name: "X"}}
	if d.roll(9) == 0 {
		l = nil
	}
	for _, f := range d.fields(place) {
		l = append(l, api.Variant(f))
	}
	return l
}

// source has, of each name, a struct or an enum, mostly; they stand in any order, each at a place of its own.
func (d decls) source() api.Source {
	var s api.Source
	for i := range d.names {
		name := "ABCDEFGHIJKLMNOP"[i:][:1]
		if d.odd() {
			name = d.great()
		}
		at := 1 + d.roll(1000)*100 + i
		if d.roll(3) > 0 {
			s.Structs = append(s.Structs, api.Struct{Name: name, Drop: d.roll(8) == 0, Fields: d.fields(i), At: at})
		} else {
			s.Enums = append(s.Enums, api.Enum{Name: name, Variants: d.variants(i), At: at})
		}
	}
	for i, name := range []string{"f", "g"} {
		if d.odd() {
			name = d.pick("f", "h", "A")
		}
		s.Fns = append(s.Fns, api.Fn{Name: name, Params: d.fields(-1), At: 1 + d.roll(1000)*100 + 50 + i})
	}
	for i := range s.Structs { // what a struct holds may stand ahead of it
		j := d.roll(len(s.Structs))
		s.Structs[i], s.Structs[j] = s.Structs[j], s.Structs[i]
	}
	return s
}

// model answers as the chapter says it, by going into each type anew, as often as there are rounds.
type model struct{ api.Source }

// within are the types of the fields, or of the variants, of what a type means; and what that is: TyStruct, TyEnum, or nothing.
func (m model) within(t api.Ty) ([]api.Ty, api.TyKind, bool) {
	var l []api.Ty
	if t.K == api.TyStruct {
		for _, x := range m.Structs {
			if x.Name == t.Name {
				for _, f := range x.Fields {
					l = append(l, f.Ty)
				}
				return l, api.TyStruct, x.Drop
			}
		}
	}
	if t.K == api.TyStruct || t.K == api.TyEnum {
		for _, x := range m.Enums {
			if x.Name == t.Name {
				for _, v := range x.Variants {
					l = append(l, v.Ty)
				}
				return l, api.TyEnum, false
			}
		}
	}
	return nil, api.TyUnit, false
}

func (m model) rounds() int { return len(m.Structs) + len(m.Enums) }

// size is that of the round of this number.
func (m model) size(t api.Ty, round int, known map[string]int) int {
	if t.K == api.TyUnit {
		return 0
	}
	if t.K != api.TyStruct && t.K != api.TyEnum {
		return 1
	}
	key := strconv.Itoa(int(t.K)) + t.Name + strconv.Itoa(round)
	if n, ok := known[key]; ok {
		return n
	}
	l, k, _ := m.within(t)
	if k == api.TyUnit || round == 0 {
		return 0
	}
	sum, most := 0, 0
	for _, x := range l {
		n := m.size(x, round-1, known)
		sum, most = sum+n, max(most, n)
	}
	n := min(sum, 1025)
	if k == api.TyEnum {
		n = min(1+most, 1025)
	}
	known[key] = n
	return n
}

// some tells whether it is so of a type, or of one that stands in it, at most so deep.
func (m model) some(t api.Ty, deep int, known map[string]bool, so func(api.Ty) bool) bool {
	key := strconv.Itoa(int(t.K)) + t.Name + strconv.Itoa(deep)
	if yes, ok := known[key]; ok {
		return yes
	}
	yes := so(t)
	l, _, _ := m.within(t)
	for i := 0; i < len(l) && deep > 0 && !yes; i++ {
		yes = m.some(l[i], deep-1, known, so)
	}
	known[key] = yes
	return yes
}

func (m model) drops(t api.Ty) bool {
	return m.some(t, m.rounds(), map[string]bool{}, func(t api.Ty) bool {
		_, _, drop := m.within(t)
		return t.K == api.TyBox || t.K == api.TyCo || drop
	})
}

// has tells whether a struct or an enum stands in a type.
func (m model) has(t api.Ty, k api.TyKind, name string) bool {
	return m.some(t, m.rounds(), map[string]bool{}, func(t api.Ty) bool {
		_, is, _ := m.within(t)
		return is == k && t.Name == name
	})
}

func (m model) resolve(t api.Ty) (api.Ty, api.Errno) {
	s, e, f := kinds.StructOf(m.Source, t.Name) >= 0, kinds.EnumOf(m.Source, t.Name) >= 0, kinds.FnOf(m.Source, t.Name) >= 0
	switch {
	case t.K == api.TyInt, t.K == api.TyStruct && s, t.K == api.TyEnum && e, t.K == api.TyCo && f:
		return t, api.OK
	case t.K == api.TyStruct && e:
		return ty(api.TyEnum, t.Name, t.L...), api.OK
	case t.K == api.TyStruct, t.K == api.TyEnum, t.K == api.TyCo:
		return api.Ty{}, api.ErrUnknown
	case t.K != api.TyBox && t.K != api.TyRef && t.K != api.TyMut, len(t.L) != 1:
		return api.Ty{}, api.ErrType
	}
	in, err := m.resolve(t.L[0])
	if err != api.OK {
		return api.Ty{}, err
	}
	return ty(t.K, t.Name, in), api.OK
}

func (m model) holds(t api.Ty) bool {
	for _, x := range t.L {
		if m.holds(x) {
			return true
		}
	}
	return t.K == api.TyRef || t.K == api.TyMut
}

// part is what is wrong with the parts of an item.
func (m model) part(l []api.Field, enum bool) api.Errno {
	for i := range l {
		for j := range i {
			if l[i].Name == l[j].Name {
				return api.ErrTwice
			}
		}
	}
	if enum && len(l) == 0 {
		return api.ErrVariant
	}
	if len(l) > 200 {
		return api.ErrCount
	}
	for _, f := range l {
		if enum && f.Ty.K == api.TyUnit {
			continue
		}
		if _, err := m.resolve(f.Ty); err != api.OK {
			return err
		}
		if m.holds(f.Ty) {
			return api.ErrHold
		}
	}
	return api.OK
}

// line is an item of any kind, as it is asked by the model's check.
type line struct {
	k     api.TyKind
	name  string
	parts []api.Field
	at    int
}

func (m model) lines() []line {
	var l []line
	for _, x := range m.Structs {
		l = append(l, line{api.TyStruct, x.Name, x.Fields, x.At})
	}
	for _, x := range m.Enums {
		var parts []api.Field
		for _, v := range x.Variants {
			parts = append(parts, api.Field(v))
		}
		l = append(l, line{api.TyEnum, x.Name, parts, x.At})
	}
	for _, x := range m.Fns {
		l = append(l, line{api.TyCo, x.Name, x.Params, x.At})
	}
	return l
}

func (m model) check() (api.Errno, int) {
	l := m.lines()
	for i, x := range l {
		for _, y := range l[:i] {
			if x.name == y.name && (x.k == api.TyCo) == (y.k == api.TyCo) {
				return api.ErrTwice, x.at
			}
		}
	}
	for _, x := range l {
		if err := m.part(x.parts, x.k == api.TyEnum); err != api.OK {
			return err, x.at
		}
	}
	for _, x := range l {
		for _, f := range x.parts {
			if x.k != api.TyCo && m.has(f.Ty, x.k, x.name) {
				return api.ErrInfinite, x.at
			}
		}
	}
	known := map[string]int{}
	for _, x := range l {
		n := 0
		for _, f := range x.parts {
			n += m.size(f.Ty, m.rounds(), known)
		}
		if x.k == api.TyEnum {
			n = m.size(ty(x.k, x.name), m.rounds(), known)
		}
		if n > 1024 {
			return api.ErrLong, x.at
		}
	}
	return api.OK, 0
}

// asked are types of which something is asked: of each name, and some more.
func (d decls) asked() []api.Ty {
	l := []api.Ty{{}, num(), ty(api.TyStruct, "Nowhere"), ty(-1, "A"), ty(8, "A")}
	for i := range d.names {
		name := "ABCDEFGHIJKLMNOP"[i:][:1]
		l = append(l, ty(api.TyStruct, name), ty(api.TyEnum, name), d.ty(i))
	}
	return l
}

// TestModel holds all answers of many sources against the model's.
func TestModel(t *testing.T) {
	dice := dice(7)
	count := map[api.Errno]int{}
	for range 3000 {
		d := decls{&dice, 1 + dice.roll(7), []int{12, 60, 1000}[dice.roll(3)]}
		s := d.source()
		was := model{s}.copied()
		want, where := model{s}.check()
		if err, at := kinds.Check(s); err != want || at != where {
			t.Fatalf("%+v: %v at %d, want %v at %d", s, err, at, want, where)
		}
		count[want]++
		known := map[string]int{}
		for _, x := range d.asked() {
			answers(t, model{s}, known, x)
		}
		if want == api.OK {
			adds(t, s)
		}
		if t.Failed() || !reflect.DeepEqual(s, was) {
			t.Fatalf("%+v, was %+v", s, was)
		}
	}
	for _, err := range []api.Errno{api.OK, api.ErrTwice, api.ErrUnknown, api.ErrInfinite, api.ErrHold, api.ErrType, api.ErrCount, api.ErrVariant, api.ErrLong} {
		if count[err] < 20 {
			t.Errorf("%d sources with %v, too few to tell", count[err], err)
		}
	}
}

// copied is a source in lists of its own, but for those within types.
func (m model) copied() api.Source {
	var s api.Source
	for _, x := range m.Structs {
		x.Fields = append([]api.Field(nil), x.Fields...)
		s.Structs = append(s.Structs, x)
	}
	for _, x := range m.Enums {
		x.Variants = append([]api.Variant(nil), x.Variants...)
		s.Enums = append(s.Enums, x)
	}
	for _, x := range m.Fns {
		x.Params = append([]api.Field(nil), x.Params...)
		s.Fns = append(s.Fns, x)
	}
	return s
}

// few tells whether something is asked of a part: of many, most are not.
func few(i, n int) bool { return i < 3 || i%29 == 0 || i > n-2 }

// answers holds what is told of a type against the model.
func answers(t *testing.T, m model, known map[string]int, x api.Ty) {
	t.Helper()
	if got, want := kinds.Size(m.Source, x), m.size(x, m.rounds(), known); got != want {
		t.Errorf("%+v has %d words, want %d", x, got, want)
	}
	if got, want := kinds.Drops(m.Source, x), m.drops(x); got != want {
		t.Errorf("%+v drops: %v, want %v", x, got, want)
	}
	if got, want := kinds.Holds(x), m.holds(x); got != want {
		t.Errorf("%+v holds: %v, want %v", x, got, want)
	}
	got, err := kinds.Resolve(m.Source, x)
	if want, wrong := m.resolve(x); err != wrong || !same(got, want) {
		t.Errorf("%+v is %+v, %v, want %+v, %v", x, got, err, want, wrong)
	}
	l, k, _ := m.within(x)
	ahead := 0
	for i := range len(l) + 2 {
		want := 0
		if k == api.TyStruct && i < len(l) {
			want = min(ahead, 1025)
			ahead += m.size(l[i], m.rounds(), known)
		}
		if !few(i, len(l)) {
			continue
		}
		if got := kinds.Offset(m.Source, x, i); got != want {
			t.Errorf("field %d of %+v is at %d, want %d", i, x, got, want)
		}
	}
}

// adds holds the sizes of what is checked against one another, and what copies against what drops.
func adds(t *testing.T, s api.Source) {
	t.Helper()
	for _, x := range (model{s}).lines() {
		sum, most := 0, 0
		for i, f := range x.parts {
			n := kinds.Size(s, f.Ty)
			if few(i, len(x.parts)) && x.k == api.TyStruct && kinds.Offset(s, ty(x.k, x.name), i) != sum {
				t.Errorf("field %d of %s is not at %d", i, x.name, sum)
			}
			sum, most = sum+n, max(most, n)
			if kinds.Copies(f.Ty) && kinds.Drops(s, f.Ty) {
				t.Errorf("%+v copies and drops", f.Ty)
			}
		}
		got := kinds.Size(s, ty(x.k, x.name))
		switch {
		case x.k == api.TyStruct && got != sum, x.k == api.TyEnum && got != 1+most, sum > 1024 && x.k != api.TyEnum, got > 1024:
			t.Errorf("%s has %d words, its parts %d, one at most %d", x.name, got, sum, most)
		}
	}
}
