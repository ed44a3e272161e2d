package parse_test

import (
	"strings"
	"testing"

	"cocoon/api"
	"cocoon/lexis"
)

// Texts, one a line, in which a mark ^ stands ahead of the first token that can't stand where it does. Those of wrongRows stand in a coroutine.
const (
	wrongItems = `
^S
^s
^7
^;
^{}
^let a: int = 1;
^int
struct S {} ^}
struct S {} ^;
enum E {} ^,
co f() {} ^x = 1;
`
	wrongStructs = `
drop^
drop ^enum E {}
drop ^drop struct S {}
drop ^co f() {}
drop ^S {}
struct^
struct ^s {}
struct ^{}
struct ^7 {}
struct S^
struct S ^;
struct S ^(a: int)
struct S {^
struct S { ^A: int }
struct S { ^, }
struct S { ^1: int }
struct S { ^drop a: int }
struct S { a^
struct S { a ^}
struct S { a ^int }
struct S { a ^:: int }
struct S { a ^, b: int }
struct S { a: ^}
struct S { a: int^
struct S { a: int ^b: int }
struct S { a: int ^; }
struct S { a: int ^) }
struct S { a: int,^
struct S { a: int, ^}
struct S { a: int, ^, b: int }
struct S { a: int, b: int ^struct T {}
`
	wrongTypes = `
struct S { a: ^x }
struct S { a: ^7 }
struct S { a: ^mut int }
struct S { a: ^unbox int }
struct S { a: ^*int }
struct S { a: ^enum E }
struct S { a: ^: int }
struct S { a: ^(int) }
struct S { a: int ^int }
struct S { a: int^.b }
struct S { a: S ^::A }
struct S { a: S ^S }
struct S { a: box^
struct S { a: box ^}
struct S { a: box ^mut int }
struct S { a: box ^x }
struct S { a: &^
struct S { a: &^}
struct S { a: & ^x }
struct S { a: &mut ^}
struct S { a: &mut ^mut int }
struct S { a: &mut ^x }
struct S { a: co^
struct S { a: co ^S }
struct S { a: co ^int }
struct S { a: co ^co f }
struct S { a: co f ^() }
struct S { a: box &co f ^g }
`
	wrongEnums = `
enum^
enum ^e {}
enum ^{}
enum E^
enum E ^(A)
enum E {^
enum E { ^, }
enum E { ^a }
enum E { ^1 }
enum E { A^
enum E { A ^B }
enum E { A ^: int }
enum E { A ^; }
enum E { A ^::B }
enum E { A ^{ a: int } }
enum E { A,^
enum E { A, ^}
enum E { A, ^int }
enum E { A(^
enum E { A(^) }
enum E { A(^x) }
enum E { A(int^
enum E { A(int ^, int) }
enum E { A(int ^}
enum E { A(int) ^(int) }
enum E { A(int) ^B }
enum E { A(int) ^; }
`
	wrongFns = `
co^
co ^F() {}
co ^() {}
co ^co f() {}
co f^
co f ^{}
co f ^: int
co f(^
co f(^, ) {}
co f(^X: int) {}
co f(^mut x: int) {}
co f(x^
co f(x ^) {}
co f(x: int^
co f(x: int ^y: int) {}
co f(x: int ^} {}
co f(x: int, ^) {}
co f()^
co f() ^-> int {}
co f() ^;
co f() ^x = 1;
co f() {^
co f() {} ^}
co f() {} ^{}
co f() {} ^else {}
`
	wrongRows = `
^;
^1 = x;
^S = x;
^* = x;
^-x = 1;
^&x = 1;
^{}
^start g();
^co g() {}
^struct S {}
^else {}
^mut = 1;
^int = 1;
^=> {}
^) }
x^
x ^}
x ^;
x ^y = 1;
x ^== 1;
x ^=> 1;
x ^+ 1;
x ^: int = 1;
x ^() ;
x =^
x = 1^
x = 1 ^}
x = 1 ^y = 1;
x = 1 ^= 1;
x = 1; ^;
let^
let ^A: int = 1;
let ^1: int = 1;
let ^mut a: int = 1;
let a^
let a ^= 1;
let a ^.b: int = 1;
let a ^, b: int = 1;
let a: ^= 1;
let a: int^
let a: int ^;
let a: int ^== 1;
let a: int = ^;
let a: int = 1 ^}
if^
if ^{}
if ^(x) {}
if ^S {}
if ^&x {}
if x^
if x ^;
if x ^< 1 {}
if x ^y = 1;
if x ^else {}
if x {^
if x { y = 1 ^}
if x {} ^;
if x {} else^
if x {} else ^;
if x {} else ^if x {}
if x {} else {} ^else {}
while^
while ^{}
while ^while x {}
while x ^;
while x ^== 1 {}
while x {^
while x {} ^else {}
match^
match ^1 {}
match ^S {}
match ^{}
match x^
match x ^.* {}
match x ^=> {}
match x {^
match x { ^a => {} }
match x { ^1 => {} }
match x { ^drop y; }
match x { ^, }
match x { A^
match x { A ^}
match x { A ^{} }
match x { A ^::B => {} }
match x { A ^= {} }
match x { A(^
match x { A(^) => {} }
match x { A(^A) => {} }
match x { A(^1) => {} }
match x { A(a^
match x { A(a ^, b) => {} }
match x { A(a ^.b) => {} }
match x { A(a ^: int) => {} }
match x { A(a) ^{} }
match x { A(a) ^(b) => {} }
match x { A =>^
match x { A => ^a = 1; }
match x { A => ^; }
match x { A => ^} }
match x { A => {} ^, B => {} }
match x { A => {} ^; }
match x {} ^;
yield^
yield ^;
yield ^S();
yield ^&x;
yield x^
yield x ^+ 1;
yield x ^y;
return^
return ^;
return ^box 1;
return ^E::A;
return x ^- 1;
print^
print ^;
print ^wait 1;
print x ^* 2;
print x ^, y;
print 1 ^.f;
drop^
drop ^;
drop ^1;
drop ^S;
drop ^struct S {}
drop x^
drop x ^}
drop x ^.f;
drop x ^.*;
`
	wrongPlaces = `
x ^:: = 1;
x.^
x.^;
x.^= 1;
x.^. = 1;
x.^F = 1;
x.^1 = 1;
x.^& = 1;
x.^mut = 1;
x.* ^* = 1;
x.* ^f = 1;
x.f ^f = 1;
x = -^
x = - ^;
x = - ^x;
x = - ^-1;
x = - ^S();
x = - ^box 1;
x = ^+1;
x = ^*y;
x = ^(y);
x = 1 ^2;
x = 1 ^.f;
x = 1 ^();
x = y ^z;
x = y ^();
x = y ^::A;
`
	wrongSets = `
x = 1 +^
x = 1 + ^;
x = 1 + 2 ^+ 3;
x = y < z ^< w;
x = y == z ^== w;
x = y + ^+z;
x = y - - ^-1;
x = y * ^*z;
x = y + ^S();
x = y + ^&z;
x = y + ^box 1;
x = y ^-> z;
x = y ^& z;
x = y ^= z;
x = y ^=> z;
x = S() ^+ 1;
x = E::A ^+ 1;
x = box 1 ^+ 1;
x = &y ^+ 1;
x = unbox y ^- 1;
x = wait 1 ^* 1;
x = await y ^== 1;
x = &^
x = &^;
x = &^&y;
x = & ^1;
x = & ^S;
x = &^*y;
x = &mut^
x = &mut ^;
x = &mut ^mut y;
x = &mut ^1;
x = ^mut y;
x = box^
x = box ^;
x = box ^box 1;
x = box ^S();
x = box ^&y;
x = unbox^
x = unbox ^;
x = unbox ^1;
x = unbox ^S;
x = unbox ^unbox y;
x = unbox y ^.f;
x = start^
x = start ^;
x = start ^G();
x = start ^();
x = start ^co g();
x = start g^
x = start g ^;
x = start g ^.h();
x = start g(^
x = start g(^, );
x = start g(^S());
x = start g(^&y);
x = start g(1^
x = start g(1 ^2);
x = start g(1 ^;
x = start g(1 ^+ 2);
x = start g(1,^
x = start g(1, ^);
x = start g() ^();
x = await^
x = await ^;
x = await ^1;
x = await ^start g();
x = await y ^.*;
x = poll^
x = poll ^;
x = poll ^1;
x = poll ^S;
x = poll y ^.f;
x = wait^
x = wait ^;
x = wait ^S;
x = wait ^wait 1;
x = wait - ^x;
x = wait 1 ^2;
x = S^
x = S ^;
x = S ^.f;
x = S ^+ 1;
x = S ^{};
x = S ^: :A;
x = S(^
x = S(^, );
x = S(^S());
x = S(^A);
x = S(a ^: 1);
x = S(1 ^2);
x = S(1, ^);
x = S() ^();
x = S() ^.f;
x = S() ^::A;
x = E::^
x = E::^;
x = E::^a;
x = E::^(1);
x = E::A ^::B;
x = E::A ^.f;
x = E::A(^
x = E::A(^);
x = E::A(^B());
x = E::A(1^
x = E::A(1 ^, 2);
x = E::A(1) ^(2);
x = ^let;
x = ^int;
x = ^yield 1;
x = ^co g;
x = ^if y {}
`
)

// cant fails, if of one of these texts, behind something, another token is told than the one that is marked.
func cant(t *testing.T, ahead, marked string) {
	t.Helper()
	for line := range strings.Lines(strings.TrimPrefix(marked, "\n")) {
		before, after, ok := strings.Cut(strings.TrimSuffix(line, "\n"), "^")
		if !ok || strings.Contains(after, "^") {
			t.Fatalf("%q has not one mark", line)
		}
		before = ahead + before
		errs(t, before+after, api.ErrToken, len(before))
		errs(t, before+"\t"+after, api.ErrToken, len(before)+1)
		errs(t, before+"\n// ^\n"+after, api.ErrToken, len(before)+6)
		if after != "" {
			errs(t, before+after+" ; } struct", api.ErrToken, len(before))
		}
	}
}

func TestTokens(t *testing.T) {
	for _, ahead := range []string{"", "\n\t ", "struct S { a: int }\n", "enum E {} // ^\n", "co f() { x = 1; if x {} match x {} } "} {
		for _, marked := range []string{wrongItems, wrongStructs, wrongTypes, wrongEnums, wrongFns} {
			cant(t, ahead, marked)
		}
	}
	for _, ahead := range []string{
		"co f() {", "co f() { x = 1; ", "co f() { while 1 { if x { } else { match y { A => {", "drop struct S {} co f(x: int) { match x {} while x {}\n",
	} {
		for _, marked := range []string{wrongRows, wrongPlaces, wrongSets} {
			cant(t, ahead, marked)
		}
	}
}

// TestFirst: of several tokens that can't stand, the first one is told, and of what is too deep and what can't stand too.
func TestFirst(t *testing.T) {
	errs(t, "struct s { A: x }", api.ErrToken, 7)
	errs(t, "struct S { A: x } enum e {}", api.ErrToken, 11)
	errs(t, "struct S { a: x } enum e {}", api.ErrToken, 14)
	errs(t, "} } }", api.ErrToken, 0)
	deepType := "struct S { a: " + strings.Repeat("box ", 61)
	deepBlock := "co f() {" + strings.Repeat("if 1 {", 60)
	errs(t, deepType+"int } ;"+deepBlock, api.ErrDeep, len(deepType))
	errs(t, deepBlock+deepType+"int", api.ErrDeep, len(deepBlock)-1)
	errs(t, "; "+deepType, api.ErrToken, 0)
	errs(t, "; "+deepBlock, api.ErrToken, 0)
}

// TestTexts: a text without tokens errs as lexis tells, whatever could be told of the tokens ahead.
func TestTexts(t *testing.T) {
	long, large := strings.Repeat("n", api.MaxName+1), "9223372036854775808"
	for _, ahead := range []string{"", "struct S {}\n", "} ", "co f() { ", "struct S { a: " + strings.Repeat("box ", 100), "co f() {" + strings.Repeat("if 1 {", 100)} {
		errs(t, ahead+"!", api.ErrByte, len(ahead))
		errs(t, ahead+"_x", api.ErrByte, len(ahead))
		errs(t, ahead+long+" !", api.ErrName, len(ahead))
		errs(t, ahead+large+" !", api.ErrNumber, len(ahead))
		errs(t, ahead+"=== > ;", api.ErrByte, len(ahead)+4)
		errs(t, ahead+strings.Repeat(" ", api.MaxSource+1-len(ahead)), api.ErrLong, 0)
	}
	errs(t, "co f() { return -9223372036854775808; }", api.ErrNumber, 17)
	errs(t, "co f() { return "+long+"; }", api.ErrName, 16)
	errs(t, strings.Repeat("!", 2*api.MaxSource), api.ErrLong, 0)
	for i := range 256 {
		s := string([]byte{byte(i)})
		if _, err, where := lexis.Lex(s); err != api.OK {
			errs(t, s, err, where)
			errs(t, "co f() { x = ; "+s+"}", err, 15)
		}
	}
}

// TestLongest: as many bytes as a text may have are read, whatever they are.
func TestLongest(t *testing.T) {
	fill := func(s string) string { return s + strings.Repeat(" ", api.MaxSource-len(s)) }
	reads(t, fill("struct S {}"), api.Source{Structs: []api.Struct{{Name: "S"}}})
	errs(t, fill("struct S {"), api.ErrToken, api.MaxSource)
	errs(t, fill("struct S {}")+" ", api.ErrLong, 0)

	var body []api.Stmt
	var b strings.Builder
	for b.WriteString("co f(){"); b.Len()+len("x=1;}") <= api.MaxSource; b.WriteString("x=1;") {
		body = append(body, api.Stmt{K: api.StSet, At: b.Len(), P: place("x"), Rv: set(api.RvUse, number(1))})
	}
	errs(t, b.String(), api.ErrToken, b.Len())
	readsOnce(t, b.String()+"}", api.Source{Fns: []api.Fn{{Name: "f", Body: body}}})

	far := api.Place{Name: "x", Path: make([]api.Step, 30000)}
	readsOnce(t, "co f(){x"+strings.Repeat(".*", len(far.Path))+"=1;}", api.Source{Fns: []api.Fn{
		{Name: "f", Body: []api.Stmt{{K: api.StSet, At: 7, P: far, Rv: set(api.RvUse, number(1))}}},
	}})
}

// TestLongNoise: one thing, as often as it goes into a text, behind each of some beginnings.
func TestLongNoise(t *testing.T) {
	g := readGrammar(rules)
	for _, ahead := range []string{"", "struct S { a: ", "enum E { A(", "co f(", "co f() {", "co f() { x = ", "co f() { x = S(", "co f() { x", "co f() { match x {"} {
		for _, x := range []string{
			"{", "}", "(", "struct ", "struct S {}", "enum E {A}", "drop ", "co f() {", "co f() {}", "box ", "&", "&mut ", "- ", "1 ", "1,", ".*", "x: int,", "x=", "x=1;", "if 1 {", "while x {}", "match x {}", "A => {}", "A => { match x {", "E::", "f(",
		} {
			agrees(t, g, ahead+strings.Repeat(x, 8000/len(x)))
		}
	}
}
