package pins_test

import (
	"testing"

	"cocoon/api"
	"cocoon/build"
	"cocoon/pins"
)

// TestPolled: what may be polled at each place of a body.
func TestPolled(t *testing.T) {
	for _, x := range []struct {
		about  string
		blocks []string
		want   string
	}{
		{"nothing", []string{"return #0"}, "- -"},
		{"a poll", []string{"poll 0 2 1", "print #1; return #0"}, "- s | s s s"},
		{"polled twice", []string{"poll 0 2 1", "poll 0 2 2", "return #0"}, "- s | s s | s s"},
		{"two", []string{"poll 0 2 1", "poll 0 4 2", "return #0"}, "- s | s s,g | s,g s,g"},
		{"set anew", []string{"poll 0 2 1", "set 2 = 12 0 0 #1; return #0"}, "- s | s - -"},
		{"another one is set", []string{"poll 0 2 1", "set 3 = 12 0 0 #1; return #0"}, "- s | s s s"},
		{"moved away", []string{"poll 0 2 1", "set 3 = 0 0 0 move 2; return #0"}, "- s | s s s"}, // what it is moved to was not polled
		{"moved to what was polled", []string{"poll 0 2 1", "set 2 = 0 0 0 move 3; return #0"}, "- s | s - -"},
		{"awaited", []string{"poll 0 2 1", "await 0 2 2", "return #0"}, "- s | s - | - -"},
		{"dropped, ended, begun", []string{"poll 0 2 1", "poll 0 3 2", "poll 0 13 3", "drop 2; dead 3; live 13; return #0"}, "- s | s s,t | s,t s,t,w | s,t,w t,w w - -"},
		{"opened", []string{"poll 0 2 1", "match 6 2 3 4", "open 6 0 -1; return #0", "open 6 1 2; return #0", "open 6 2 4; return #0"}, "- s | s s | s s s | s - - | s s s"},
		{"polled anew behind that", []string{"poll 0 2 1", "set 2 = 12 0 0 #1; poll 0 2 2", "return #0"}, "- s | s - s | s s"},
		{"an if, one way", []string{"if #1 1 2", "poll 0 2 3", "goto 3", "return #0"}, "- - | - s | - - | s s"},
		{"an if, the other way", []string{"if #1 1 2", "goto 3", "poll 0 2 3", "return #0"}, "- - | - - | - s | s s"},
		{"an if, both ways", []string{"if #1 1 2", "poll 0 2 3", "poll 0 4 3", "return #0"}, "- - | - s | - g | s,g s,g"},
		{"set anew on one way", []string{"poll 0 2 1", "if #1 2 3", "set 2 = 12 0 0 #1; goto 3", "return #0"}, "- s | s s | s - - | s s"},
		{"set anew on both ways", []string{"poll 0 2 1", "if #1 2 3", "set 2 = 12 0 0 #1; goto 4", "await 0 2 4", "return #0"}, "- s | s s | s - - | s - | - -"},
		{"a way that ends", []string{"if #1 1 2", "poll 0 2 3", "return #0", "return #0"}, "- - | - s | - - | s s"},
		{"a while", []string{"goto 1", "if #1 2 3", "poll 0 2 1", "return #0"}, "- - | s s | s s | s s"},
		{"a while that sets it anew", []string{"goto 1", "if #1 2 4", "poll 0 2 3", "set 2 = 12 0 0 #1; goto 1", "return #0"}, "- - | - - | - s | s - - | - -"},
		{"a while that sets it anew first", []string{"goto 1", "if #1 2 3", "set 2 = 12 0 0 #1; poll 0 2 1", "return #0"}, "- - | s s | s - s | s s"},
		{"a while behind a poll", []string{"poll 0 2 1", "if #1 2 3", "set 2 = 12 0 0 #1; goto 1", "return #0"}, "- s | s s | s - - | s s"},
		{"a match, one arm", []string{"match 6 1 2 3", "poll 0 2 4", "goto 4", "poll 0 4 4", "return #0"}, "- - | - s | - - | - g | s,g s,g"},
		{"a match, each arm sets it anew", []string{"poll 0 2 1", "match 6 2 3 4", "drop 2; goto 5", "open 6 1 2; goto 5", "dead 2; goto 5", "return #0"}, "- s | s s | s - - | s - - | s - - | - -"},
		{"a ring of one", []string{"dead 3; poll 0 2 0"}, "s s s"},
		{"a ring of one that sets it anew", []string{"set 2 = 12 0 0 #1; poll 0 2 0"}, "s - s"},
		{"a ring of two", []string{"poll 0 2 1", "poll 0 4 0"}, "s,g s,g | s,g s,g"},
		{"the first block comes again", []string{"print #1; if #1 1 2", "poll 0 2 0", "return #0"}, "s s s | s s | s s"},
		{"the other way round", []string{"goto 2", "return #0", "poll 0 2 1"}, "- - | s s | - s"},
		{"not reached", []string{"return #0", "poll 0 2 0"}, "- - | nil"},
		{"from what is not reached", []string{"goto 2", "poll 0 2 2", "return #0"}, "- - | nil | - -"},
		{"not reached, in a ring", []string{"poll 0 4 3", "poll 0 2 2", "poll 0 3 1", "return #0"}, "- g | nil | nil | g g"},
	} {
		s := source(t, decls)
		b := body(t, x.blocks...)
		is(t, x.about, polled(t, b, pins.Polled(s, b)), x.want)
	}
}

// TestHanded: what is handed in was not polled yet, whatever it is, and however much.
func TestHanded(t *testing.T) {
	s := source(t, decls)
	b := body(t, "poll 0 13 1", "return #0")
	for n := range len(b.Locals) {
		b.Params = n
		is(t, itoa(n)+" are handed in", polled(t, b, pins.Polled(s, b)), "- w | w w")
	}
	alone := api.Body{Locals: []api.Local{{Ty: api.Ty{K: api.TyInt}}}, Blocks: []api.Block{{End: api.Tm{K: api.TmReturn}}}}
	is(t, "the result alone", polled(t, alone, pins.Polled(api.Source{}, alone)), "- -")
	checked(t, "the result alone", api.Source{}, nil, alone, api.OK, 0)
}

// TestPolledTexts: what may be polled in coroutines, where each begins, and where each block ends.
func TestPolledTexts(t *testing.T) {
	for _, x := range []struct{ text, want string }{
		{"x = poll p; print x;", "- p | p -"},
		{"x = poll p; let c: co s = p;", "- p | p -"},
		{"if x { x = poll p; } else { x = poll q; } yield x;", "- - | - p | - q | p p | q q | p,q p,q | p,q -"},
		{"if x { x = poll p; x = await p; } yield x;", "- - | - p | - - | p - | - - | - - | - -"},
		{"while x { x = poll p; }", "- - | p p | p p | p - | p p"},
		{"while x { let c: co s = start s(1); x = poll c; }", "- - | - - | - c | - - | c -"}, // it is left behind the poll
		{"let c: co s = p; while x { x = poll c; p = c; c = start s(x); }", "- - | - - | - c | - - | c -"},
		{"match e { A => { } B(y) => { x = poll y; } C(z) => { x = poll z; q = z; } }", "- - | - - | - y | - z | y - | z - | - -"},
	} {
		s := source(t, head+x.text+" return 0; }"+decls)
		b := build.Body(s, 0)
		if len(b.Blocks) == 0 {
			t.Fatalf("nothing is built of %s", x.text)
		}
		text := ""
		for i, states := range pins.Polled(s, b) {
			if i > 0 {
				text += " | "
			}
			text += names(b, states[0]) + " " + names(b, states[len(states)-1])
		}
		is(t, x.text, text, x.want)
	}
}
