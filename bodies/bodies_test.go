package bodies_test

import (
	"strings"
	"testing"

	"cocoon/api"
	"cocoon/bodies"
	"cocoon/mir"
	"cocoon/parse"
	"cocoon/tree"
)

const head = "f 2\n\t0 x int\n\t1 e E\n\t2 r &mut box S\n\t3  int\n"

// lines are one for each kind of step, and of end.
const lines = `live 0
dead 1
end 1
drop 1
set 0 = 1 0 0 copy 2.-1.-1.0 #-7
set 1 = 11 0 3 move 1
set 2 = 7 0 0 2.-1
print #9223372036854775807
open 1 2 -1
goto 1
if copy 0 1 2
match 1 1 2 3
return #0
yield copy 3 1
await 2.-1.0 1 3
poll 0 1 3
wait 3 #-1 2`

func source(t *testing.T) api.Source {
	t.Helper()
	s, err, _ := parse.Parse("struct S { a: int } enum E { A } co g() {}")
	if err != api.OK {
		t.Fatal(err)
	}
	return s
}

// TestRead: what is read has the text that was read.
func TestRead(t *testing.T) {
	s := source(t)
	for _, line := range strings.Split(lines, "\n") {
		text := head + "block 0\n\t" + line + "\n\treturn copy 3\nblock 1\n\tgoto 0\n"
		if strings.Contains("goto if match return yield await poll wait", strings.Fields(line)[0]) {
			text = head + "block 0\n\tlive 0\n\t" + line + "\nblock 1\n\tgoto 0\n"
		}
		b, ok := bodies.Read(s, text)
		if got := mir.Text(b); !ok || got != text {
			t.Errorf("%v, %s\nis read of %s", ok, got, text)
		}
	}
	b, ok := bodies.Read(s, head)
	if !ok || b.Name != "f" || b.Params != 2 || len(b.Locals) != 4 || b.Locals[1].Ty.K != api.TyEnum || len(b.Blocks) != 0 {
		t.Errorf("%v, %+v", ok, b)
	}
	if x := mustRead(t, s, "drop 1").Blocks[0].Ins[0]; !x.U.Move || x.U.S.Local != 1 {
		t.Errorf("a drop is %+v", x)
	}
}

func mustRead(t *testing.T, s api.Source, line string) api.Body {
	t.Helper()
	b, ok := bodies.Read(s, head+"block 0\n\t"+line+"\n\tgoto 0\n")
	if !ok {
		t.Fatalf("%q is not read", line)
	}
	return b
}

// TestWrong: what is no body, no type, no spot or no value is not read.
func TestWrong(t *testing.T) {
	s := source(t)
	for _, text := range []string{
		"", "f", "f x", "f 1 2", head + "\tx", head + "\t4 y Q", head + "\t4 y", head + "block 0\n\n", head + "block 0\n\tgo 1",
		head + "block 0\n\tlive", head + "block 0\n\tlive x", head + "block 0\n\tlive 1 2", head + "block 0\n\tlive 1.", head + "block 0\n\tlive 1.x",
		head + "block 0\n\tset 1 + 0 0 0 #1", head + "block 0\n\tset 1 =", head + "block 0\n\tset 1 = 0 0 0 #1 2 3", head + "block 0\n\tset 1 = 0 0 0 #x",
		head + "block 0\n\tprint 1", head + "block 0\n\tprint take 1", head + "block 0\n\topen 1 2", head + "block 0\n\tgoto x", head + "block 0\n\t?",
	} {
		if b, ok := bodies.Read(s, text); ok || b.Name != "" || b.Locals != nil || b.Blocks != nil {
			t.Errorf("%q is read as %+v", text, b)
		}
	}
	for _, text := range []string{"", "x", "1.", ".1", "1 2", "1..2"} {
		if x, ok := bodies.Spot(text); ok || x.Local != 0 || x.Path != nil {
			t.Errorf("%q is read as %+v", text, x)
		}
	}
	for _, text := range []string{"", "0 0", "0 0 0 1 2", "0 0 0 move", "0 0 0 #", "x 0 0"} {
		if v, ok := bodies.Value(text); ok || v.Uses != nil {
			t.Errorf("%q is read as %+v", text, v)
		}
	}
	for _, text := range []string{"", "Q", "box", "int, y: int", "&Q", "co f"} {
		if u, ok := bodies.Type(s, text); ok || tree.Type(u) != "?" {
			t.Errorf("%q is read as %+v", text, u)
		}
	}
}
