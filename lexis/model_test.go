package lexis_test

import (
	"math"
	"math/big"
	"regexp"
	"slices"
	"strings"
	"testing"

	"cocoon/api"
	"cocoon/lexis"
)

// What the chapter passes, and its tokens, at the beginning of a text.
var (
	gapAhead    = regexp.MustCompile(`^(?:[ \t\n]|//[^\n]*)+`)
	nameAhead   = regexp.MustCompile(`^[a-zA-Z][a-zA-Z0-9_]*`)
	numberAhead = regexp.MustCompile(`^[0-9]+`)
)

// plain is what Lex should answer, as the chapter tells it.
func plain(s string) ([]api.Token, api.Errno, int) {
	if len(s) > 65536 {
		return nil, 43, 0
	}
	var tokens []api.Token
	for rest := s; rest != ""; {
		at := len(s) - len(rest)
		x := api.Token{At: at}
		if gap := gapAhead.FindString(rest); gap != "" {
			rest = rest[len(gap):]
			continue
		} else if text := nameAhead.FindString(rest); text != "" {
			if len(text) > 24 {
				return nil, 42, at
			}
			x.K, x.Text = 1, text
		} else if text := numberAhead.FindString(rest); text != "" {
			n, _ := new(big.Int).SetString(text, 10)
			if n.Cmp(big.NewInt(math.MaxInt)) > 0 {
				return nil, 41, at
			}
			x.K, x.Text, x.N = 2, text, int(n.Int64())
		} else {
			x.K, x.Text = 3, longestSign(rest)
			if x.Text == "" {
				return nil, 40, at
			}
		}
		tokens = append(tokens, x)
		rest = rest[len(x.Text):]
	}
	return append(tokens, api.Token{At: len(s)}), 0, 0
}

// longestSign is the longest one with which a text begins.
func longestSign(s string) string {
	longest := ""
	for _, x := range signs() {
		if strings.HasPrefix(s, x) && len(x) > len(longest) {
			longest = x
		}
	}
	return longest
}

// dice are numbers one behind the other, always the same ones.
type dice uint64

func (d *dice) roll(n int) int {
	*d = *d*6364136223846793005 + 1442695040888963407
	return int(uint64(*d) >> 33 % uint64(n))
}

// of is some bytes of an alphabet.
func (d *dice) of(alphabet string, length int) string {
	var b strings.Builder
	for range length {
		b.WriteByte(alphabet[d.roll(len(alphabet))])
	}
	return b.String()
}

const (
	someLetters = "abcxyzABCXYZ"
	someDigits  = "0123456789"
)

// piece is some part of a text: mostly one that may stand there.
func (d *dice) piece() string {
	switch d.roll(9) {
	case 0:
		return d.of(someLetters, 1) + d.of(someLetters+someDigits+"_", d.roll(6))
	case 1:
		return words()[d.roll(len(words()))]
	case 2:
		return d.of(someDigits, 1+d.roll(5))
	case 3:
		return d.of(" \t\n", 1+d.roll(3))
	case 4:
		return "//" + d.of(" ab/1=\xff\r", d.roll(5)) + "\n"[d.roll(2):]
	case 5:
		return d.rare()
	}
	return signs()[d.roll(len(signs()))]
}

// rare is a part at an edge.
func (d *dice) rare() string {
	switch d.roll(12) {
	case 0:
		return "x" + d.of("y_7", 22+d.roll(3))
	case 1:
		return d.of("0", d.roll(30)) + "92233720368547758" + d.of("0789", 2)
	case 2:
		return string([]byte{byte(d.roll(256))})
	}
	return ""
}

// TestModel holds what is told of many texts against a plain reading of the chapter.
func TestModel(t *testing.T) {
	d := dice(4)
	count := map[api.Errno]int{}
	for range 60000 {
		s := ""
		for range d.roll(14) {
			s += d.piece()
		}
		tokens, err, at := plain(s)
		count[err]++
		if err == api.OK {
			gives(t, s, tokens[:len(tokens)-1]...)
			stand(t, s)
		} else {
			errs(t, s, err, at)
		}
		aWord(t, s)
		if t.Failed() {
			return
		}
	}
	for _, err := range []api.Errno{api.OK, api.ErrByte, api.ErrNumber, api.ErrName} {
		if count[err] < 500 {
			t.Errorf("%v: %d texts, too few to tell", err, count[err])
		}
	}
}

// stand fails, if a text's tokens do not stand where they tell, in their order, or if something else than what is passed stands between them.
func stand(t *testing.T, s string) {
	t.Helper()
	tokens, _, _ := lexis.Lex(s)
	behind := 0
	for _, x := range tokens {
		if x.At < behind || x.At+len(x.Text) > len(s) || s[x.At:x.At+len(x.Text)] != x.Text {
			t.Errorf("Lex(%q): %v does not stand there", s, x)
			return
		}
		gap := s[behind:x.At]
		if gapAhead.FindString(gap) != gap {
			t.Errorf("Lex(%q): %q is passed ahead of %v", s, gap, x)
		}
		if (x.Text == "") != (x.K == api.TokEnd) || (x.K == api.TokEnd) != (x.At == len(s)) {
			t.Errorf("Lex(%q): %v is no end, or no token", s, x)
		}
		behind = x.At + len(x.Text)
	}
}

// aWord fails, if Word does not tell of a text whether its tokens are one name, and all of it.
func aWord(t *testing.T, s string) {
	t.Helper()
	tokens, _, _ := lexis.Lex(s)
	one := len(tokens) == 2 && tokens[0] == name(0, s)
	upper := one && strings.ContainsAny(s[:1], "ABCDEFGHIJKLMNOPQRSTUVWXYZ")
	word(t, s, one, upper, slices.Contains(words(), s))
}
