package build_test

import (
	"slices"
	"strings"
)

// dice are numbers one behind the other, always the same ones.
type dice uint64

func (d *dice) roll(n int) int {
	*d = *d*6364136223846793005 + 1442695040888963407
	return int(uint64(*d) >> 33 % uint64(n))
}

func (d *dice) pick(all ...string) string { return all[d.roll(len(all))] }

// maker writes coroutines in which all has its type. A value of each type that holds no reference is handed in.
type maker struct {
	*dice
	strings.Builder
	name  string
	known []spot // all that is reached from the names that are known, by a few steps
	had   int    // names so far
}

// spot is a place that is known, its type, and whether it is reached through a shared reference.
type spot struct {
	place, t string
	shared   bool
}

// handed are the types of which a value is handed in: all of decls, and some of those around them.
func handed() []string {
	return []string{"int", "P", "D", "S", "None", "E", "F", "box int", "box S", "box E", "box P", "box box P", "box D", "co g", "co h"}
}

// parts are what a type is made of: of a struct its fields, of an enum its variants; behind each its type.
func parts(t string) []string {
	switch t {
	case "P":
		return []string{"x", "int", "y", "int"}
	case "D":
		return []string{"n", "int"}
	case "S":
		return []string{"n", "int", "p", "P", "d", "D", "e", "E", "b", "box S", "i", "box int", "c", "co h"}
	case "E":
		return []string{"A", "", "B", "int", "C", "P", "X", "box E", "Y", "F", "Z", "D"}
	case "F":
		return []string{"G", ""}
	}
	return nil
}

// behind is what a type is the address of.
func behind(t string) (string, bool) {
	for _, around := range []string{"box ", "&mut ", "&"} {
		if in, ok := strings.CutPrefix(t, around); ok {
			return in, true
		}
	}
	return "", false
}

func isEnum(t string) bool { return t == "E" || t == "F" }

func copies(t string) bool { return t == "int" || t[0] == '&' && !strings.HasPrefix(t, "&mut ") }

func alone(x spot) bool { return !strings.Contains(x.place, ".") }

// coroutine is a text.
func (d *dice) coroutine(name string) string {
	m := &maker{dice: d, name: name}
	m.WriteString("co " + name + "(")
	for i, t := range handed() {
		if i > 0 {
			m.WriteString(", ")
		}
		m.WriteString(m.fresh(t) + ": " + t)
	}
	m.WriteString(") {\n")
	if !m.row(3) {
		m.WriteString("return " + m.oper("int") + ";\n")
	}
	m.WriteString("}\n")
	return m.String()
}

// fresh is a new name, that is known from here on.
func (m *maker) fresh(t string) string {
	m.had++
	name := m.pick("a", "bc", "d_e") + itoa(m.had)
	m.know(name, t)
	return name
}

func (m *maker) know(name, t string) {
	first := len(m.known)
	m.known = append(m.known, spot{place: name, t: t})
	for i := first; i < len(m.known) && len(m.known) < first+30; i++ {
		x := m.known[i]
		if in, ok := behind(x.t); ok {
			m.known = append(m.known, spot{x.place + ".*", in, x.shared || copies(x.t)})
		}
		if l := parts(x.t); !isEnum(x.t) {
			for ; len(l) > 0; l = l[2:] {
				m.known = append(m.known, spot{x.place + "." + l[0], l[1], x.shared})
			}
		}
	}
}

// among is one of the spots that fit.
func (m *maker) among(fits func(spot) bool) (spot, bool) {
	var l []spot
	for _, x := range m.known {
		if fits(x) {
			l = append(l, x)
		}
	}
	if len(l) == 0 {
		return spot{}, false
	}
	return l[m.roll(len(l))], true
}

// row is statements, at most so deep in one another; it tells whether they end.
func (m *maker) row(deep int) bool {
	ahead := len(m.known)
	ends := false
	for n := m.roll(deep + 3); n > 0 && !ends; n-- {
		ends = m.stmt(deep)
	}
	m.known = m.known[:ahead]
	return ends
}

func (m *maker) stmt(deep int) bool {
	switch k := m.roll(17); {
	case k < 4:
		t := m.ty()
		v := m.value(t)
		m.WriteString("let " + m.fresh(t) + ": " + t + " = " + v + ";\n")
	case k < 7:
		x, _ := m.among(func(x spot) bool { return alone(x) || x.t == "int" && !x.shared })
		m.WriteString(x.place + " = " + m.value(x.t) + ";\n")
	case k < 10 && deep > 0:
		return m.branch(deep)
	case k < 11 && deep > 0:
		m.WriteString("while " + m.oper("int"))
		m.block(deep)
	case k < 13 && deep > 0:
		return m.match(deep)
	case k < 14:
		x, _ := m.among(alone)
		m.WriteString("drop " + x.place + ";\n")
	case k < 15 && m.roll(4) == 0:
		m.WriteString("return " + m.oper("int") + ";\n")
		return true
	default:
		m.WriteString(m.pick("yield ", "print ") + m.oper("int") + ";\n")
	}
	return false
}

// block is a row that stands in another one; many of them end.
func (m *maker) block(deep int) bool {
	m.WriteString(" {\n")
	ends := m.row(deep - 1)
	if !ends && m.roll(5) < 2 {
		m.WriteString("return " + m.oper("int") + ";\n")
		ends = true
	}
	m.WriteString("}\n")
	return ends
}

func (m *maker) branch(deep int) bool {
	m.WriteString("if " + m.oper("int"))
	one := m.block(deep)
	if m.roll(3) == 0 {
		return false
	}
	m.WriteString("else")
	other := m.block(deep)
	return one && other
}

func (m *maker) match(deep int) bool {
	x, _ := m.among(func(x spot) bool { return alone(x) && isEnum(x.t) })
	m.WriteString("match " + x.place + " {\n")
	all := true
	for l := parts(x.t); len(l) > 0; l = l[2:] {
		ahead := len(m.known)
		m.WriteString(l[0])
		if l[1] != "" {
			m.WriteString("(" + m.fresh(l[1]) + ")")
		}
		m.WriteString(" =>")
		all = m.block(deep) && all
		m.known = m.known[:ahead]
	}
	m.WriteString("}\n")
	return all
}

// ty is one that a value can be made of.
func (m *maker) ty() string {
	if m.roll(3) == 0 {
		return m.pick("&", "&mut ") + m.pick(handed()...)
	}
	return m.pick(append(handed(), "int", "int", "co "+m.name)...)
}

func (m *maker) oper(t string) string {
	if t == "int" && m.roll(3) == 0 {
		return itoa(m.roll(9) - 4)
	}
	x, ok := m.among(func(x spot) bool { return x.t == t && (alone(x) || copies(t)) })
	if !ok {
		panic("there is no " + t)
	}
	return x.place
}

func (m *maker) opers(types ...string) string {
	var l []string
	for _, t := range types {
		l = append(l, m.oper(t))
	}
	return "(" + strings.Join(l, ", ") + ")"
}

// value is something of a type that is set.
func (m *maker) value(t string) string {
	has := func(x spot) bool { return x.t == t && (alone(x) || copies(t)) }
	if _, ok := m.among(has); ok && m.roll(4) == 0 {
		return m.oper(t)
	}
	boxed := func(x spot) bool { return x.t == "box "+t && alone(x) }
	if x, ok := m.among(boxed); ok && m.roll(4) == 0 {
		return "unbox " + x.place
	}
	if in, ok := behind(t); ok {
		if t[0] == 'b' {
			return "box " + m.oper(in)
		}
		around := strings.TrimSuffix(t, in)
		x, _ := m.among(func(x spot) bool { return x.t == in && (copies(t) || !x.shared) })
		return around + x.place
	}
	switch {
	case t == "int":
		return m.reckoned()
	case t == "co h":
		return "start h" + m.opers("int", "D", "E")
	case strings.HasPrefix(t, "co ") && t != "co g":
		return "start " + t[3:] + m.opers(handed()...)
	case t == "co g":
		return "start g()"
	case isEnum(t):
		l := parts(t)
		i := 2 * m.roll(len(l)/2)
		if l[i+1] == "" {
			return t + "::" + l[i]
		}
		return t + "::" + l[i] + m.opers(l[i+1])
	}
	var types []string
	for l := parts(t); len(l) > 0; l = l[2:] {
		types = append(types, l[1])
	}
	return t + m.opers(types...)
}

func (m *maker) reckoned() string {
	switch m.roll(8) {
	case 0:
		return "wait " + m.oper("int")
	case 1, 2:
		x, _ := m.among(func(x spot) bool { return alone(x) && slices.Contains([]string{"co g", "co h", "co " + m.name}, x.t) })
		return m.pick("await ", "poll ") + x.place
	}
	return m.oper("int") + m.pick(" + ", " - ", " * ", " < ", " == ") + m.oper("int")
}
