package lexis_test

import (
	"slices"
	"strings"
	"testing"

	"cocoon/api"
	"cocoon/lexis"
)

// words are all that the chapter tells as reserved.
func words() []string {
	return strings.Fields("struct enum co let if else while match yield return print drop box unbox start await poll wait mut int")
}

// word fails, if other things are told of a text.
func word(t *testing.T, s string, one, upper, reserved bool) {
	t.Helper()
	if got := lexis.Word(s); got != one {
		t.Errorf("Word(%.60q): %v", s, got)
	}
	if got := lexis.Upper(s); got != upper {
		t.Errorf("Upper(%.60q): %v", s, got)
	}
	if got := lexis.Reserved(s); got != reserved {
		t.Errorf("Reserved(%.60q): %v", s, got)
	}
}

func TestWords(t *testing.T) {
	for _, s := range []string{"a", "z", "x1", "a_", "aB", "lets", "le", "ints", "cO", "i", "self"} {
		word(t, s, true, false, false)
	}
	for _, s := range []string{"A", "Z", "X1", "A_", "Ab", "AB", "Let", "INT", "Struct"} {
		word(t, s, true, true, false)
	}
	for _, s := range []string{
		"", " ", "_", "_a", "_A", "0", "1a", "9A", ".", "::", "-", "a b", "A B", " a", "a ", "A\n", "\tA", "a;", "a.b", "A::B",
		"a//", "//a", "//", "a-", "let ", " let", "let\n", "let let", "a\x00", "\x00", "\xff", "a\xff", "\u00c4", "A\u00e4", "\u00e4",
	} {
		word(t, s, false, false, false)
	}
}

func TestWordsLength(t *testing.T) {
	for n := 1; n <= api.MaxName; n++ {
		word(t, strings.Repeat("q", n), true, false, false)
		word(t, "Q"+strings.Repeat("_", n-1), true, true, false)
	}
	for _, n := range []int{api.MaxName + 1, 2 * api.MaxName, api.MaxSource, api.MaxSource + 1, 1 << 22} {
		word(t, strings.Repeat("q", n), false, false, false)
		word(t, strings.Repeat("Q", n), false, false, false)
	}
}

func TestReserved(t *testing.T) {
	if len(words()) != 20 {
		t.Fatalf("%d words", len(words()))
	}
	for _, s := range words() {
		word(t, s, true, false, true)
		word(t, strings.ToUpper(s), true, true, false)
		word(t, strings.ToUpper(s[:1])+s[1:], true, true, false)
		word(t, s+"_", true, false, false)
		word(t, s+" ", false, false, false)
		for i := range len(s) {
			near := s[:i] + s[i+1:]
			word(t, near, true, false, slices.Contains(words(), near))
			near = s[:i] + "q" + s[i+1:]
			word(t, near, true, false, false)
		}
		for _, other := range words() {
			word(t, s+other, true, false, false)
		}
	}
}

// TestShort: all texts of up to two bytes.
func TestShort(t *testing.T) {
	letters := "abcdefghijklmnopqrstuvwxyz"
	great := strings.ToUpper(letters)
	for i := range 256 {
		a := string([]byte{byte(i)})
		upper := strings.Contains(great, a)
		first := upper || strings.Contains(letters, a)
		word(t, a, first, upper, false)
		for j := range 256 {
			s := a + string([]byte{byte(j)})
			one := first && strings.Contains(letters+great+"0123456789_", s[1:])
			word(t, s, one, one && upper, s == "co" || s == "if")
		}
	}
}
