package mir_test

import (
	"strconv"
	"testing"

	"cocoon/api"
	"cocoon/mir"
)

func TestTextBlocks(t *testing.T) {
	s := source(t, decls)
	text := known + "block 0\n"
	for _, line := range lines(rightSteps) {
		text += "\t" + line + "\n"
	}
	text += "\treturn copy 21\n"
	for i, line := range lines(rightEnds) {
		text += "block " + strconv.Itoa(i+1) + "\n\t" + line + "\n"
	}
	b := read(t, s, text)
	judged(t, "all of known", s, b, true)
	if got := mir.Text(b); got != text {
		t.Errorf("%s\nwant\n%s", got, text)
	}
}

func TestTextHead(t *testing.T) {
	for _, x := range []struct {
		b    api.Body
		want string
	}{
		{api.Body{}, " 0\n"},
		{api.Body{Name: "f", Params: -7}, "f -7\n"},
		{api.Body{Name: "two words", Params: 12345}, "two words 12345\n"},
		{api.Body{Name: "f", Params: -9223372036854775808}, "f -9223372036854775808\n"},
		{api.Body{Name: "f", Locals: []api.Local{{}}}, "f 0\n\t0  ?\n"},
		{api.Body{Name: "f", Locals: []api.Local{{Name: "x", Ty: num()}, {Ty: num()}}}, "f 0\n\t0 x int\n\t1  int\n"},
		{api.Body{Name: "f", Locals: []api.Local{{Name: "a", Ty: ty(api.TyMut, "", ty(api.TyBox, "", ty(api.TyEnum, "E")))}, {Name: "b", Ty: ty(api.TyBox, "")}}}, "f 0\n\t0 a &mut box E\n\t1 b ?\n"},
		{api.Body{Name: "f", Blocks: []api.Block{{}, {}}}, "f 0\nblock 0\n\tgoto\nblock 1\n\tgoto\n"},
		{api.Body{Name: "f", Blocks: []api.Block{back()}}, "f 0\nblock 0\n\treturn #0\n"},
	} {
		if got := mir.Text(x.b); got != x.want {
			t.Errorf("%+v is %q, want %q", x.b, got, x.want)
		}
	}
}

func spotOf(local int, path ...int) api.Spot { return api.Spot{Local: local, Path: path} }

func TestTextSteps(t *testing.T) {
	copied, moved, number := api.Use{S: spotOf(4, 1)}, api.Use{N: 3, Move: true, S: spotOf(5)}, api.Use{Num: true, N: -6}
	for _, x := range []struct {
		in   api.In
		want string
	}{
		{api.In{K: api.InLive, S: spotOf(3)}, "live 3"},
		{api.In{K: api.InDead, S: spotOf(3)}, "dead 3"},
		{api.In{K: api.InDead, S: spotOf(-3)}, "dead -3"},
		{api.In{K: api.InDrop, S: spotOf(3), U: moved}, "drop 3"},
		{api.In{K: api.InDrop, S: spotOf(3), U: copied}, "end 3"},
		{api.In{K: api.InDrop, S: spotOf(3)}, "end 3"},
		{api.In{K: api.InSet, S: spotOf(2, -1, 0)}, "set 2.-1.0 = 0 0 0"},
		{api.In{K: api.InSet, S: spotOf(2), V: api.Value{K: api.RvAdd, Uses: []api.Use{copied, number}}}, "set 2 = 1 0 0 copy 4.1 #-6"},
		{api.In{K: api.InSet, S: spotOf(2), V: api.Value{K: api.RvMake, Which: 7, Tag: -8, Uses: []api.Use{moved}, S: spotOf(9)}}, "set 2 = 10 7 -8 move 5"},
		{api.In{K: api.InSet, S: spotOf(2), V: api.Value{K: api.RvRef, S: spotOf(9, -1)}}, "set 2 = 6 0 0 9.-1"},
		{api.In{K: api.InSet, S: spotOf(2), V: api.Value{K: api.RvMut, Uses: []api.Use{number, copied}, S: spotOf(9, 12)}}, "set 2 = 7 0 0 #-6 copy 4.1 9.12"},
		{api.In{K: api.InSet, S: spotOf(2), V: api.Value{K: api.RvUnbox, Which: 1, S: spotOf(9)}}, "set 2 = 9 1 0 9"},
		{api.In{K: api.InSet, S: spotOf(2), V: api.Value{K: api.RvVariant, Tag: 1, S: spotOf(9)}}, "set 2 = 11 0 1"},
		{api.In{K: api.InSet, S: spotOf(2), V: api.Value{K: api.RvAwait, S: spotOf(9)}}, "set 2 = 13 0 0"},
		{api.In{K: api.InSet, S: spotOf(2), V: api.Value{K: -5, S: spotOf(9)}}, "set 2 = -5 0 0"},
		{api.In{K: api.InPrint, U: copied}, "print copy 4.1"},
		{api.In{K: api.InPrint, U: moved}, "print move 5"},
		{api.In{K: api.InPrint, U: number}, "print #-6"},
		{api.In{K: api.InPrint, U: api.Use{Num: true, Move: true, N: -9223372036854775808, S: spotOf(1)}}, "print #-9223372036854775808"},
		{api.In{K: api.InOpen, S: spotOf(2), V: api.Value{Tag: 4, S: spotOf(-1)}}, "open 2 4 -1"},
		{api.In{K: api.InOpen, S: spotOf(12), V: api.Value{Tag: 0, S: spotOf(13)}}, "open 12 0 13"},
		{api.In{K: 6, S: spotOf(2), U: copied}, "?"},
		{api.In{K: -1}, "?"},
	} {
		b := api.Body{Name: "f", Blocks: []api.Block{{Ins: []api.In{{At: 3, K: -1}, x.in, {K: 9}}, End: back().End}}}
		if got, want := mir.Text(b), "f 0\nblock 0\n\t?\n\t"+x.want+"\n\t?\n\treturn #0\n"; got != want {
			t.Errorf("%+v is %q, want %q", x.in, got, want)
		}
	}
}

func TestTextEnds(t *testing.T) {
	use := api.Use{S: spotOf(4, 1)}
	for _, x := range []struct {
		end  api.Tm
		want string
	}{
		{api.Tm{K: api.TmGoto, To: []int{3}}, "goto 3"},
		{api.Tm{K: api.TmIf, U: use, To: []int{3, -4}}, "if copy 4.1 3 -4"},
		{api.Tm{K: api.TmMatch, S: spotOf(5), To: []int{3}}, "match 5 3"},
		{api.Tm{K: api.TmMatch, S: spotOf(5), To: []int{3, 4, 5, 6}}, "match 5 3 4 5 6"},
		{api.Tm{K: api.TmMatch, S: spotOf(5)}, "match 5"},
		{api.Tm{K: api.TmReturn, U: use}, "return copy 4.1"},
		{api.Tm{K: api.TmYield, U: use, To: []int{3}}, "yield copy 4.1 3"},
		{api.Tm{K: api.TmAwait, S: spotOf(5, -1, 2), V: api.Value{S: spotOf(6)}, To: []int{3}}, "await 5.-1.2 6 3"},
		{api.Tm{K: api.TmPoll, S: spotOf(5), V: api.Value{S: spotOf(-1)}, To: []int{3}}, "poll 5 -1 3"},
		{api.Tm{K: api.TmWait, S: spotOf(5, 7), U: api.Use{Num: true, N: 8}, To: []int{3}}, "wait 5.7 #8 3"},
		{api.Tm{K: 8, S: spotOf(5), U: use, To: []int{3}}, "?"},
		{api.Tm{K: -1}, "?"},
	} {
		x.end.At = 77
		b := api.Body{Name: "f", Blocks: []api.Block{{End: x.end}}}
		if got, want := mir.Text(b), "f 0\nblock 0\n\t"+x.want+"\n"; got != want {
			t.Errorf("%+v is %q, want %q", x.end, got, want)
		}
	}
}
