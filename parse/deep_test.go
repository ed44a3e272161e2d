package parse_test

import (
	"strings"
	"testing"

	"cocoon/api"
	"cocoon/parse"
)

// opening is how a block begins within another one, ahead of its brace, and what closes what else is open there.
type opening struct{ text, end string }

func openings() []opening {
	return []opening{
		{"if 1 ", ""}, {"while x.f ", ""}, {"match x { A => ", "}"}, {"match x { B(b) => ", "}"},
		{"if x {} else ", ""}, {"match x { A => {} B => ", "}"}, {"while 1 {} drop x; if 0 ", ""},
	}
}

// nested is the text of a coroutine with blocks in one another, up to the innermost one's brace, and what closes them.
func nested(deep int, way func(int) opening) (string, string) {
	open, end := "co f() {", "}"
	for i := range deep - 1 {
		open += way(i).text + "{"
		end = "}" + way(i).end + end
	}
	return open, end
}

// mixed are the ways in which things may stand in one another, an outer one first: one in the other, and each in itself.
func mixed[T any](all []T) []func(int) T {
	l := []func(int) T{func(i int) T { return all[i%len(all)] }}
	for _, x := range all {
		l = append(l, func(int) T { return x })
	}
	return l
}

// isRead fails, if a text is not read, whatever it is read as.
func isRead(t *testing.T, s string) {
	t.Helper()
	got, err, where := parse.Parse(s)
	if err != api.OK || where != 0 {
		t.Errorf("Parse(%.2000q): %v, %d", s, err, where)
		return
	}
	readAgain(t, s, got)
}

// TestDeepBlocks: a block may be 60 deep, whatever it stands in, and ahead of it.
func TestDeepBlocks(t *testing.T) {
	for _, way := range mixed(openings()) {
		for _, deep := range []int{1, 2, 58, 59, 60} {
			open, end := nested(deep, way)
			isRead(t, open+end)
			isRead(t, open+"x = 1; yield 1; match y {}"+end) // the braces of a match are no block
			isRead(t, open+end+open+end)
			errs(t, open+";"+end, api.ErrToken, len(open))
		}
		for _, deep := range []int{1, 2, 58, 59} {
			open, end := nested(deep, way)
			for _, x := range openings() {
				isRead(t, open+x.text+"{}"+x.end+end)
				isRead(t, open+x.text+"{}"+x.end+x.text+"{}"+x.end+end)
			}
		}
	}
}

// TestTooDeepBlocks: a block that is 61 deep errs at its brace, whatever stands behind it; where no brace stands, that is told.
func TestTooDeepBlocks(t *testing.T) {
	for _, way := range mixed(openings()) {
		open, end := nested(60, way)
		for _, x := range openings()[:4] { // the others have a block ahead
			deeper := open + x.text
			for _, behind := range []string{"{}" + x.end + end, "{", "{}", "{{", "{ ; struct"} {
				errs(t, deeper+behind, api.ErrDeep, len(deeper))
				errs(t, deeper+"// {\n\t"+behind, api.ErrDeep, len(deeper)+6)
			}
			for _, behind := range []string{"", ";", "}", "(", "; {}", "if {", "x {"} {
				errs(t, deeper+behind, api.ErrToken, len(deeper))
			}
		}
		errs(t, open+"x = 1; print x; while y { x = 2; }"+end, api.ErrDeep, len(open)+24)
		errs(t, open+"match x {} if 1 {}"+end, api.ErrDeep, len(open)+16)
	}
}

// TestDeepAgain: how deep one block is hangs on what it stands in, not on what stands ahead of it.
func TestDeepAgain(t *testing.T) {
	open, end := nested(60, mixed(openings())[0])
	errs(t, open+end+open+"if 1 {}"+end, api.ErrDeep, len(open+end+open)+5)
	isRead(t, "co f() {"+strings.Repeat("if 1 {} else {} match x { A => {} } ", 100)+"}")
	errs(t, "co f() {"+strings.Repeat("if 1 {}", 100)+strings.Repeat("if 1 {", 60)+"}", api.ErrDeep, 8+700+6*60-1)
}

// around is the text of what a type stands in, and its kind.
type around struct {
	text string
	k    api.TyKind
}

func arounds() []around {
	return []around{{"box ", api.TyBox}, {"&", api.TyRef}, {"&mut ", api.TyMut}, {"& mut\n", api.TyMut}, {"& ", api.TyRef}}
}

// within is the text of what a type stands in, and the type.
func within(deep int, way func(int) around, inner api.Ty) (string, api.Ty) {
	text := ""
	for i := range deep {
		text += way(i).text
	}
	for i := range deep {
		inner = ty(way(deep-1-i).k, "", inner)
	}
	return text, inner
}

// tyPlaces are texts up to a type, and behind it, of each place where one may stand.
func tyPlaces() [][2]string {
	open, end := nested(60, mixed(openings())[0])
	return [][2]string{
		{"struct S { a: ", "}"}, {"struct S { a: &box int, b: ", ", c: int }"}, {"drop struct S {} enum E { A(", ") }"}, {"enum E { A(box int), B, C(", "), D }"},
		{"co f(x: ", ") {}"}, {"co f(x: int, y: ", ") {}"}, {"co f() { let a: ", " = 1; }"}, {"co f() { let a: box &int = 1; let b: ", " = 1; }"},
		{open + "let a: ", " = 1;" + end},
	}
}

// TestDeepTypes: a type may stand in 60 of box, & and &mut.
func TestDeepTypes(t *testing.T) {
	for _, way := range mixed(arounds()) {
		for _, deep := range []int{0, 1, 2, 59, 60} {
			for inner, wanted := range map[string]api.Ty{"int": num(), "S": ty(api.TyStruct, "S"), "co g": ty(api.TyCo, "g")} {
				text, x := within(deep, way, wanted)
				reads(t, "struct S { a:"+text+inner+"}", api.Source{Structs: []api.Struct{{Name: "S", Fields: []api.Field{field("a", x)}}}})
				for _, p := range tyPlaces() {
					isRead(t, p[0]+text+inner+p[1])
				}
			}
		}
	}
}

// TestTooDeepTypes: one that would stand in more errs at the token behind the 61st of them, whatever it is.
func TestTooDeepTypes(t *testing.T) {
	for _, way := range mixed(arounds()) {
		text, _ := within(61, way, num())
		more := ""
		for i := range 40 {
			more += way(61 + i).text
		}
		for _, p := range tyPlaces() {
			for _, inner := range []string{"int", "S", "co g", "x", "7", "}", ",", "=", ";", "{", "struct", "co", "- 1", "box int", "box", "&int", "&mut int", "&", "let", more + "int", more} {
				errs(t, p[0]+text+inner+p[1], api.ErrDeep, len(p[0]+text))
				errs(t, p[0]+text+"\t// int\n"+inner, api.ErrDeep, len(p[0]+text)+8)
			}
			errs(t, p[0]+text, api.ErrDeep, len(p[0]+text))
			fewer, _ := within(60, way, num())
			errs(t, p[0]+fewer+"7", api.ErrToken, len(p[0]+fewer))
			errs(t, p[0]+fewer+"box mut", api.ErrDeep, len(p[0]+fewer)+4)
			errs(t, p[0]+fewer+"&mut mut", api.ErrDeep, len(p[0]+fewer)+5)
			errs(t, p[0]+fewer+"& mut int", api.ErrDeep, len(p[0]+fewer)+6) // the word is one with the sign ahead of it
			errs(t, p[0]+fewer+"&mut", api.ErrDeep, len(p[0]+fewer)+4)
		}
	}
}
