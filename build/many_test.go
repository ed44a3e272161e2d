package build_test

import (
	"strings"
	"testing"

	"cocoon/api"
	"cocoon/build"
	"cocoon/check"
	"cocoon/tree"
)

// made is a source of some coroutines, and the items of decls.
func made(t *testing.T, d *dice) (api.Source, string) {
	t.Helper()
	text := ""
	for i := range 1 + d.roll(2) {
		text += d.coroutine("f" + itoa(i))
	}
	text += decls
	return source(t, text), text
}

// agrees fails, if what is built of a source is not what the model tells of it.
func agrees(t *testing.T, s api.Source) {
	t.Helper()
	l := build.Bodies(s)
	if len(l) != len(s.Fns) {
		t.Fatalf("%d bodies of %d", len(l), len(s.Fns))
	}
	for i, b := range l {
		if got, want := told(b, itoa), modelOf(s, i); got != want {
			t.Errorf("%s\nwant %s", got, want)
		}
		holds(t, b.Name, s, b)
	}
	if fn := len(s.Fns) - 1; !alike(build.Body(s, fn), l[fn]) {
		t.Errorf("%s is another one by itself", l[fn].Name)
	}
}

// TestModel holds what is built of many sources against the model.
func TestModel(t *testing.T) {
	d := dice(3)
	count := counts{}
	for range 800 {
		s, text := made(t, &d)
		was := cloned(s)
		if err, at := check.Check(s); err != api.OK {
			t.Fatalf("%v at %s\nof %s", err, text[at:], text)
		}
		agrees(t, s)
		if t.Failed() || !alike(s, was) {
			t.Fatal(text)
		}
		count.text(text)
		for _, f := range s.Fns {
			count.row(f.Body)
		}
	}
	count.enough(t, 100)
}

// counts are how often something was looked at.
type counts map[string]int

// words are those that stand in texts of what is built.
const words = "let if else while match yield return print drop box unbox start await poll wait & &mut => :: + - * < == .* ."

func (c counts) text(text string) {
	for _, word := range strings.Fields(words) {
		c[word] += strings.Count(text, word)
	}
}

// row counts statements by which of their rows end.
func (c counts) row(l []api.Stmt) {
	for _, x := range l {
		form := map[api.StKind]string{api.StIf: "if", api.StWhile: "while", api.StMatch: "match"}[x.K]
		rows := [][]api.Stmt{x.Then, x.Else}
		for _, a := range x.Arms {
			rows = append(rows, a.Body)
		}
		var ended []string
		for i, row := range rows {
			c.row(row)
			if check.Ends(row) {
				ended = append(ended, itoa(i))
			}
		}
		if n := len(x.Arms); n > 0 && len(ended) == n {
			ended = []string{"all"}
		} else if n > 0 && len(ended) > 0 {
			ended = []string{"some"}
		}
		c[form+" ended "+strings.Join(ended, " ")]++
	}
}

// forms are of which rows there must be enough that ended, or not.
const forms = "if ended ,if ended 0,if ended 1,if ended 0 1,while ended ,while ended 0,match ended ,match ended some,match ended all"

func (c counts) enough(t *testing.T, least int) {
	t.Helper()
	for _, word := range append(strings.Fields(words), strings.Split(forms, ",")...) {
		if c[word] < least {
			t.Errorf("%d times %s, too few to tell", c[word], word)
		}
	}
}

// TestSpoilt: of what is spoilt in a number, a text or a list somewhere, either nothing is built, or what the model tells.
func TestSpoilt(t *testing.T) {
	d := dice(5)
	right, unread := 0, 0
	const n = 5000
	s, _ := made(t, &d)
	for i := range n {
		if i%60 == 0 {
			s, _ = made(t, &d)
		}
		x := cloned(s)
		for range 1 + d.roll(2) {
			spoil(&d, &x)
		}
		was := cloned(x)
		err, _ := check.Check(x)
		switch read := tree.Valid(x); {
		case err == api.OK && read:
			right++
			agrees(t, x)
		case err == api.OK:
			unread++
			isRefused(t, "what could not have been read", x)
		default:
			isRefused(t, "what is not checked", x)
		}
		if t.Failed() || !alike(x, was) {
			t.Fatalf("%s\n%+v", tree.Text(x), x)
		}
	}
	if right < n/20 || unread < n/20 || right+unread > n*9/10 {
		t.Errorf("%d of %d are right, %d are checked and could not have been read: too few or too many to tell", right, n, unread)
	}
}

// TestApart: what is built shares no memory with what it is built of, nor has two lists in one.
func TestApart(t *testing.T) {
	d := dice(9)
	for range 60 {
		s, text := made(t, &d)
		l := build.Bodies(s)
		one := build.Body(s, 0)
		if shared(&s, &l, &one) {
			t.Fatalf("lists in common: %s", text)
		}
	}
}
