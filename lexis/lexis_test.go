package lexis_test

import (
	"math"
	"slices"
	"strings"
	"testing"

	"cocoon/api"
	"cocoon/lexis"
)

func name(at int, text string) api.Token {
	return api.Token{K: api.TokName, Text: text, At: at}
}

func number(at int, text string, n int) api.Token {
	return api.Token{K: api.TokInt, Text: text, N: n, At: at}
}

func sign(at int, text string) api.Token {
	return api.Token{K: api.TokSign, Text: text, At: at}
}

// gives fails, if a text has not these tokens, and its end behind them.
func gives(t *testing.T, s string, wanted ...api.Token) {
	t.Helper()
	wanted = append(slices.Clone(wanted), api.Token{K: api.TokEnd, At: len(s)})
	if got, err, at := lexis.Lex(s); !slices.Equal(got, wanted) || err != api.OK || at != 0 {
		t.Errorf("Lex(%.60q): %v, %v, %d, want %v", s, got, err, at, wanted)
	}
}

// errs fails, if a text has not this error there, and nothing beside it.
func errs(t *testing.T, s string, wanted api.Errno, where int) {
	t.Helper()
	if got, err, at := lexis.Lex(s); len(got) > 0 || err != wanted || at != where {
		t.Errorf("Lex(%.60q): %d tokens, %v, %d, want none, %v, %d", s, len(got), err, at, wanted, where)
	}
}

// signs are all that the chapter tells.
func signs() []string {
	return strings.Fields("{ } ( ) , ; : :: . * & = == => + - -> <")
}

func TestExamples(t *testing.T) {
	gives(t, "x.*=-1;", name(0, "x"), sign(1, "."), sign(2, "*"), sign(3, "="), sign(4, "-"), number(5, "1", 1), sign(6, ";"))
	errs(t, "a==>b", api.ErrByte, 3)
	gives(t, "")
}

func TestSigns(t *testing.T) {
	for _, x := range signs() {
		gives(t, x, sign(0, x))
		gives(t, "a"+x+"7", name(0, "a"), sign(1, x), number(1+len(x), "7", 7))
		for _, y := range signs() {
			gives(t, x+" "+y, sign(0, x), sign(len(x)+1, y))
		}
	}
}

// TestLongest: of what stands together, as much as can be is one token.
func TestLongest(t *testing.T) {
	gives(t, ":::", sign(0, "::"), sign(2, ":"))
	gives(t, "::::", sign(0, "::"), sign(2, "::"))
	gives(t, "===", sign(0, "=="), sign(2, "="))
	gives(t, "===>", sign(0, "=="), sign(2, "=>"))
	errs(t, "====>", api.ErrByte, 4)
	errs(t, "=>>", api.ErrByte, 2)
	gives(t, "--->", sign(0, "-"), sign(1, "-"), sign(2, "->"))
	gives(t, "=->", sign(0, "="), sign(1, "->"))
	gives(t, "<-", sign(0, "<"), sign(1, "-"))
	gives(t, "a::B", name(0, "a"), sign(1, "::"), name(3, "B"))
	gives(t, "a:B", name(0, "a"), sign(1, ":"), name(2, "B"))
}

// TestApartSigns: what is passed between two signs keeps them two.
func TestApartSigns(t *testing.T) {
	for _, gap := range []string{" ", "\t", "\n", "//\n"} {
		gives(t, ":"+gap+":", sign(0, ":"), sign(1+len(gap), ":"))
		gives(t, "="+gap+"=", sign(0, "="), sign(1+len(gap), "="))
		gives(t, "="+gap+"=>", sign(0, "="), sign(1+len(gap), "=>"))
		errs(t, "="+gap+">", api.ErrByte, 1+len(gap))
		errs(t, "-"+gap+">", api.ErrByte, 1+len(gap))
	}
}

func TestNames(t *testing.T) {
	for _, x := range []string{"a", "z", "A", "Z", "a_", "a__b", "aZ09_", "Abc9", "let", "Let", "lets", "let1", "int"} {
		gives(t, x, name(0, x))
		gives(t, " "+x+" ", name(1, x))
		gives(t, "9"+x+"-", number(0, "9", 9), name(1, x), sign(1+len(x), "-"))
	}
	gives(t, "ab cd", name(0, "ab"), name(3, "cd"))
	gives(t, "a.b", name(0, "a"), sign(1, "."), name(2, "b"))
	gives(t, "a//b\nc", name(0, "a"), name(5, "c"))
	errs(t, "_", api.ErrByte, 0)
	errs(t, "_a", api.ErrByte, 0)
	errs(t, "9_", api.ErrByte, 1)
	errs(t, "a _b", api.ErrByte, 2)
	errs(t, "a\u00e9", api.ErrByte, 1)
	errs(t, "\u00e9a", api.ErrByte, 0)
}

func TestLongNames(t *testing.T) {
	for _, tail := range []string{"a", "Z", "0", "_"} {
		long := "x" + strings.Repeat(tail, api.MaxName-1)
		gives(t, long, name(0, long))
		gives(t, "7"+long+";"+long, number(0, "7", 7), name(1, long), sign(1+len(long), ";"), name(2+len(long), long))
		errs(t, long+"b", api.ErrName, 0)
		errs(t, long+"9", api.ErrName, 0)
		errs(t, long+"_", api.ErrName, 0)
		errs(t, "f( "+long+tail+tail+")", api.ErrName, 3)
	}
	errs(t, strings.Repeat("n", api.MaxSource), api.ErrName, 0)
}

func TestNumbers(t *testing.T) {
	for text, n := range map[string]int{
		"0": 0, "1": 1, "9": 9, "10": 10, "007": 7, "00": 0,
		"1234567890123456789":                            1234567890123456789,
		"9223372036854775806":                            math.MaxInt - 1,
		"9223372036854775807":                            math.MaxInt,
		strings.Repeat("0", 100) + "9223372036854775807": math.MaxInt,
		strings.Repeat("0", api.MaxSource-3) + "5":       5,
	} {
		gives(t, text, number(0, text, n))
		gives(t, "-"+text+"a", sign(0, "-"), number(1, text, n), name(1+len(text), "a"))
	}
	gives(t, "12 34", number(0, "12", 12), number(3, "34", 34))
	gives(t, "0x1f", number(0, "0", 0), name(1, "x1f"))
	gives(t, "1e5.2", number(0, "1", 1), name(1, "e5"), sign(3, "."), number(4, "2", 2))
	errs(t, "1_000", api.ErrByte, 1)
	errs(t, "\u0661", api.ErrByte, 0) // a digit of another script
}

func TestLargeNumbers(t *testing.T) {
	for _, text := range []string{
		"9223372036854775808", "9223372036854775809", "9223372036854775810", "9300000000000000000", "10000000000000000000",
		"18446744073709551615", "18446744073709551616", "18446744073709551617", "36893488147419103233",
		"00009223372036854775808", strings.Repeat("9", 1000), "1" + strings.Repeat("0", api.MaxSource-6),
	} {
		errs(t, text, api.ErrNumber, 0)
		errs(t, "x = "+text+";", api.ErrNumber, 4)
	}
}

func TestPassed(t *testing.T) {
	for _, gap := range []string{
		" ", "\t", "\n", " \t\n\n\t ", "//\n", "////\n", "// 1\n// 2\n", " // \n\t//\n", "// // /* */\n", "//\\\n",
		"//\x00\r\v\f\xff\u00e9`'\"!?#$%@\n", "//99999999999999999999\n", "//" + strings.Repeat("n", 100) + "\n",
	} {
		gives(t, gap)
		gives(t, gap+"a", name(len(gap), "a"))
		gives(t, "1"+gap+"a", number(0, "1", 1), name(1+len(gap), "a"))
		gives(t, "1"+gap, number(0, "1", 1))
	}
	for _, end := range []string{"//", "///", "// a b", "//\xff", "// = 1;", "\n// a // b\r"} {
		gives(t, end)
		gives(t, "a"+end, name(0, "a"))
		gives(t, end+"\na", name(len(end)+1, "a"))
	}
	errs(t, "// b\n/", api.ErrByte, 5)
	errs(t, "a / b", api.ErrByte, 2)
	errs(t, "/ /", api.ErrByte, 0)
	errs(t, "/* */", api.ErrByte, 0)
	errs(t, "//\r!\r\n\r", api.ErrByte, 6)
}

// TestBytes: each byte alone, behind a token, and where it is passed.
func TestBytes(t *testing.T) {
	for i := range 256 {
		s := string([]byte{byte(i)})
		gives(t, "//"+s)
		switch {
		case strings.Contains(" \t\n", s):
			gives(t, s)
		case i >= 'a' && i <= 'z' || i >= 'A' && i <= 'Z':
			gives(t, s, name(0, s))
		case i >= '0' && i <= '9':
			gives(t, s, number(0, s, i-'0'))
		case slices.Contains(signs(), s):
			gives(t, s, sign(0, s))
		default:
			errs(t, s, api.ErrByte, 0)
			errs(t, "1"+s, api.ErrByte, 1)
			errs(t, "( "+s+" a", api.ErrByte, 2)
		}
	}
}

// TestLong: a text of as many bytes as there may be has its tokens; of one more, nothing else is told.
func TestLong(t *testing.T) {
	most := strings.Repeat(" ", api.MaxSource-1)
	gives(t, most)
	gives(t, most+"\n")
	gives(t, most+"a", name(len(most), "a"))
	gives(t, "a"+most, name(0, "a"))
	errs(t, most+"!", api.ErrByte, len(most))
	errs(t, most+"  ", api.ErrLong, 0)
	errs(t, "//"+most, api.ErrLong, 0)
	errs(t, "!"+most+"!", api.ErrLong, 0)
	errs(t, strings.Repeat("n", api.MaxSource+1), api.ErrLong, 0)
	errs(t, strings.Repeat("9", 2*api.MaxSource), api.ErrLong, 0)

	full := strings.Repeat("{", api.MaxSource)
	got, err, at := lexis.Lex(full)
	if len(got) != api.MaxSource+1 || err != api.OK || at != 0 {
		t.Fatalf("of %d signs: %d tokens, %v, %d", len(full), len(got), err, at)
	}
	for i, x := range got[:len(full)] {
		if x != sign(i, "{") {
			t.Fatalf("token %d is %v", i, x)
		}
	}
	if end := (api.Token{K: api.TokEnd, At: len(full)}); got[len(full)] != end {
		t.Errorf("the end is %v", got[len(full)])
	}
}

// TestFirst: what stands first is told, whatever errs behind it.
func TestFirst(t *testing.T) {
	long, large := strings.Repeat("n", api.MaxName+1), "9223372036854775808"
	errs(t, "a "+long+" ! "+large, api.ErrName, 2)
	errs(t, "a "+large+" ! "+long, api.ErrNumber, 2)
	errs(t, "a ! "+large+" "+long, api.ErrByte, 2)
	errs(t, long+"!", api.ErrName, 0)
	errs(t, large+"!", api.ErrNumber, 0)
	errs(t, large+long, api.ErrNumber, 0)
	errs(t, "!!", api.ErrByte, 0)
	errs(t, "//"+long+large+"!\n"+long, api.ErrName, 2+len(long)+len(large)+2)
}

// TestApart: what is done to one answer is not seen in another one.
func TestApart(t *testing.T) {
	s := "let a = 1;"
	first, _, _ := lexis.Lex(s)
	second, _, _ := lexis.Lex(s)
	clear(first)
	gives(t, s, second[:len(second)-1]...)
	gives(t, s, name(0, "let"), name(4, "a"), sign(6, "="), number(8, "1", 1), sign(9, ";"))
}
