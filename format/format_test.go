package format

import (
	"fmt"
	"math"
	"math/big"
	"math/rand"
	"reflect"
	"slices"
	"strings"
	"testing"
	"unicode/utf8"
	"unsafe"

	"figurehead/api"
	"figurehead/clear"
	"figurehead/pattern"
	"figurehead/print"
	"figurehead/shape"
	"figurehead/symbol"
)

// ways are all eight; the first seven round.
var ways = []int{api.Ceiling, api.Floor, api.Up, api.Down, api.HalfEven, api.HalfUp, api.HalfDown, api.Exact}

// noWays are numbers that are no way.
var noWays = []int{-1, -2, 8, 9, 255, 256, 1 << 32, math.MinInt, math.MaxInt}

// zeros are systems whose digits have from 1 to 4 bytes, at the ends of what is a code point, and one that has fffd.
var zeros = []rune{'0', 'a', 0x660, 0x966, 0xff10, 0x1d7ce, 0, 0xd7f6, 0xe000, 0xfff4, 0x10fff6}

// nines are the greatest number in range.
var nines = strings.Repeat("9", api.MaxPlace)

// of makes a decimal that is not below 0.
func of(digits string, exp int) api.Dec {
	return api.Dec{Digits: digits, Exp: exp}
}

// minusOf makes the one below 0, -0 too.
func minusOf(digits string, exp int) api.Dec {
	return api.Dec{Neg: true, Digits: digits, Exp: exp}
}

// rep is s n times.
func rep(s string, n int) string {
	return strings.Repeat(s, n)
}

// arabic are symbols of more than a byte each, some of more than one code point.
func arabic() api.Symbols {
	return api.Symbols{Zero: 0x660, Decimal: "\u066b", Group: "\u066c", Minus: "\u200f-", Plus: "\u200f+", Percent: "\u066a\u061c", Permille: "\u0609", Currency: "kr.", E: "\u0623\u0633"}
}

// plainly are symbols that share no character with each other.
func plainly(zero rune) api.Symbols {
	return api.Symbols{Zero: zero, Decimal: "D", Group: "G", Minus: "M", Plus: "P", Percent: "C", Permille: "L", Currency: "Y", E: "E"}
}

// compiled is the pattern that the text tells.
func compiled(t *testing.T, text string) api.Pattern {
	t.Helper()
	p, fault := pattern.Compile(text)
	if fault != (api.Fault{}) {
		t.Fatalf("%q is no pattern: %v", text, fault)
	}
	return p
}

// in writes the digits 0 to 9 in zero's system.
func in(zero rune, digits string) string {
	var out []rune
	for i := range len(digits) {
		out = append(out, zero+rune(digits[i]-'0'))
	}
	return string(out)
}

// coreOf is what the chapter's words make of a shape, digit by digit.
func coreOf(p api.Pattern, s api.Symbols, x api.Shape) string {
	text := ""
	secondary := p.Secondary
	if secondary < 1 {
		secondary = p.Primary
	}
	for i := range len(x.Int) {
		left := len(x.Int) - i - p.Primary
		if i > 0 && p.Primary > 0 && left >= 0 && left%secondary == 0 {
			text += s.Group
		}
		text += in(s.Zero, x.Int[i:i+1])
	}
	if len(x.Frac) > 0 {
		text += s.Decimal + in(s.Zero, x.Frac)
	}
	if !p.Sci {
		return text
	}
	text += s.E
	if x.Exp < 0 {
		text += s.Minus
	} else if p.PlusExp {
		text += s.Plus
	}
	return text + in(s.Zero, fmt.Sprintf("%0*d", p.MinExp, max(x.Exp, -x.Exp)))
}

// itemsOf is what s makes of the items, one by one.
func itemsOf(s api.Symbols, items []api.Item) string {
	out := ""
	for _, one := range items {
		out += []string{"", string(one.R), s.Minus, s.Plus, s.Percent, s.Permille, s.Currency}[one.Kind]
	}
	return out
}

// formatOf is what the chapter's words make of a good p, a good s, a way and a decimal.
func formatOf(p api.Pattern, s api.Symbols, m int, d api.Dec) (string, api.Errno) {
	rounded, e := shape.Round(p, m, d)
	if e != api.OK {
		return "", e
	}
	prefix, suffix := itemsOf(s, p.Prefix), itemsOf(s, p.Suffix)
	if rounded.Neg {
		prefix, suffix = itemsOf(s, p.NegPrefix), itemsOf(s, p.NegSuffix)
	}
	parts := []string{prefix, coreOf(p, s, shape.Lay(p, rounded)), suffix}
	if p.PadAt == api.NoPad {
		return strings.Join(parts, ""), api.OK
	}
	at := []int{0, 0, 1, 2, 3}[p.PadAt]
	for n := utf8.RuneCountInString(strings.Join(parts, "")); n < p.Width; n++ {
		parts = slices.Insert(parts, at, string(p.Pad))
	}
	return strings.Join(parts, ""), api.OK
}

// hold holds Format against the chapter's words, and Core, too, and answers the text.
func hold(t *testing.T, p api.Pattern, s api.Symbols, m int, d api.Dec) string {
	t.Helper()
	got, e := Format(p, s, m, d)
	want, wantError := formatOf(p, s, m, d)
	if got != want || e != wantError {
		t.Errorf("Format(%q, %+q, %d, %v) = %q, %d, want %q, %d", print.Print(p), s, m, d, got, e, want, wantError)
	}
	if e == api.OK {
		rounded, _ := shape.Round(p, m, d)
		x := shape.Lay(p, rounded)
		if got, want := Core(p, s, x), coreOf(p, s, x); got != want {
			t.Errorf("Core(%q, %+q, %+v) = %q, want %q", print.Print(p), s, x, got, want)
		}
	}
	return got
}

// want holds Format against a text, and the words, too.
func want(t *testing.T, text string, s api.Symbols, m int, d api.Dec, wanted string) {
	t.Helper()
	p := compiled(t, text)
	if got := hold(t, p, s, m, d); got != wanted {
		t.Errorf("Format(%q, %+q, %d, %v) = %q, want %q", text, s, m, d, got, wanted)
	}
}

// TestExamples: the chapter's example, and the document's that write.
func TestExamples(t *testing.T) {
	s := symbol.Latin()
	want(t, "#,##0.00;(#)", s, api.Exact, minusOf("12345", -1), "(1,234.50)")
	want(t, "0.0%", s, api.HalfEven, of("1234", -4), "12.3%")
	want(t, "##0.##E0", s, api.HalfEven, of("12345", 0), "12.3E3")
	want(t, "@##", s, api.HalfEven, of("12345", -7), "0.00123")
	want(t, "*x#,##0", s, api.Exact, of("7", 0), "xxxx7")
	want(t, "0.25", s, api.HalfUp, of("4", -1), "0.50")
	want(t, "#.##", s, api.Exact, of("0", 0), "0")
	want(t, "#.##", s, api.Exact, of("5", -1), ".5")
	want(t, "#,##,##0", s, api.Exact, of("123456789", 0), "12,34,56,789")
	if got, e := Format(compiled(t, "0"), s, api.Exact, of("25", -1)); got != "" || e != api.ErrInexact {
		t.Errorf("Format of 2.5 by 0 and Exact = %q, %d", got, e)
	}
	// What is not clear is written all the same.
	want(t, "0;0", s, api.Exact, minusOf("5", 0), "5")
}

// TestCore: each part of a core, there and not there.
func TestCore(t *testing.T) {
	for _, c := range []struct {
		text   string
		x      api.Shape
		latin  string
		arabic string
	}{
		{"0", api.Shape{Int: "0"}, "0", "\u0660"},
		{"0", api.Shape{Int: "1234567890"}, "1234567890", "\u0661\u0662\u0663\u0664\u0665\u0666\u0667\u0668\u0669\u0660"},
		{"a-0b%;(0)", api.Shape{Int: "12"}, "12", "\u0661\u0662"},
		{"a-0b%;(0)", api.Shape{Neg: true, Int: "12"}, "12", "\u0661\u0662"},
		{"*x00000", api.Shape{Int: "00012"}, "00012", "\u0660\u0660\u0660\u0661\u0662"},
		{"#,##0", api.Shape{Int: "1"}, "1", "\u0661"},
		{"#,##0", api.Shape{Int: "123"}, "123", "\u0661\u0662\u0663"},
		{"#,##0", api.Shape{Int: "1234"}, "1,234", "\u0661\u066c\u0662\u0663\u0664"},
		{"#,##0", api.Shape{Int: "123456"}, "123,456", "\u0661\u0662\u0663\u066c\u0664\u0665\u0666"},
		{"#,##0", api.Shape{Int: "1234567"}, "1,234,567", "\u0661\u066c\u0662\u0663\u0664\u066c\u0665\u0666\u0667"},
		{"#,##,##0", api.Shape{Int: "1234567"}, "12,34,567", "\u0661\u0662\u066c\u0663\u0664\u066c\u0665\u0666\u0667"},
		{"#,####,#", api.Shape{Int: "1234567"}, "12,3456,7", "\u0661\u0662\u066c\u0663\u0664\u0665\u0666\u066c\u0667"},
		{"#,0", api.Shape{Int: "123"}, "1,2,3", "\u0661\u066c\u0662\u066c\u0663"},
		{"0,000", api.Shape{Int: "0005"}, "0,005", "\u0660\u066c\u0660\u0660\u0665"},
		{"#,@@#", api.Shape{Int: "12300"}, "12,300", "\u0661\u0662\u066c\u0663\u0660\u0660"},
		{"#,##0.0", api.Shape{Int: "1234", Frac: "5678"}, "1,234.5678", "\u0661\u066c\u0662\u0663\u0664\u066b\u0665\u0666\u0667\u0668"},
		{"0.##", api.Shape{Int: "7"}, "7", "\u0667"},
		{"0.##", api.Shape{Int: "7", Frac: "0"}, "7.0", "\u0667\u066b\u0660"},
		{".##", api.Shape{Frac: "05"}, ".05", "\u066b\u0660\u0665"},
		{"#,###.##", api.Shape{Frac: "5"}, ".5", "\u066b\u0665"},
		{"0E0", api.Shape{Int: "5"}, "5E0", "\u0665\u0623\u0633\u0660"},
		{"0E0", api.Shape{Int: "5", Exp: 7}, "5E7", "\u0665\u0623\u0633\u0667"},
		{"0E0", api.Shape{Int: "5", Exp: -7}, "5E-7", "\u0665\u0623\u0633\u200f-\u0667"},
		{"0E+0", api.Shape{Int: "5"}, "5E+0", "\u0665\u0623\u0633\u200f+\u0660"},
		{"0E+0", api.Shape{Int: "5", Exp: 302}, "5E+302", "\u0665\u0623\u0633\u200f+\u0663\u0660\u0662"},
		{"0E+0", api.Shape{Int: "5", Exp: -300}, "5E-300", "\u0665\u0623\u0633\u200f-\u0663\u0660\u0660"},
		{"0E00", api.Shape{Int: "5", Exp: 1}, "5E01", "\u0665\u0623\u0633\u0660\u0661"},
		{"0E00", api.Shape{Int: "5", Exp: -12}, "5E-12", "\u0665\u0623\u0633\u200f-\u0661\u0662"},
		{"0E00", api.Shape{Int: "5", Exp: 123}, "5E123", "\u0665\u0623\u0633\u0661\u0662\u0663"},
		{"0E00", api.Shape{Int: "5"}, "5E00", "\u0665\u0623\u0633\u0660\u0660"},
		{"0E+000", api.Shape{Int: "5", Exp: -1}, "5E-001", "\u0665\u0623\u0633\u200f-\u0660\u0660\u0661"},
		{"0E000000000", api.Shape{Int: "5", Exp: 10}, "5E000000010", "\u0665\u0623\u0633" + rep("\u0660", 7) + "\u0661\u0660"},
		{"0.0E0", api.Shape{Int: "1", Frac: "20", Exp: 3}, "1.20E3", "\u0661\u066b\u0662\u0660\u0623\u0633\u0663"},
		{".0E0", api.Shape{Frac: "2", Exp: 3}, ".2E3", "\u066b\u0662\u0623\u0633\u0663"},
		{"0000E0", api.Shape{Int: "1234", Exp: 3}, "1234E3", "\u0661\u0662\u0663\u0664\u0623\u0633\u0663"},
		{"@@E0", api.Shape{Int: "1", Frac: "2", Exp: -3}, "1.2E-3", "\u0661\u066b\u0662\u0623\u0633\u200f-\u0663"},
	} {
		p := compiled(t, c.text)
		if got := Core(p, symbol.Latin(), c.x); got != c.latin {
			t.Errorf("Core(%q, Latin, %+v) = %q, want %q", c.text, c.x, got, c.latin)
		}
		if got := Core(p, arabic(), c.x); got != c.arabic {
			t.Errorf("Core(%q, arabic, %+v) = %q, want %q", c.text, c.x, got, c.arabic)
		}
		if got := coreOf(p, symbol.Latin(), c.x); got != c.latin {
			t.Errorf("the words make %q of %q and %+v", got, c.text, c.x)
		}
	}
}

// TestCoreSymbols: which symbol stands where: each one alone is another text.
func TestCoreSymbols(t *testing.T) {
	p, x := compiled(t, "#,##0.0"), api.Shape{Int: "1234", Frac: "5"}
	sci, plus := compiled(t, "0.0E+00"), api.Shape{Int: "1", Frac: "5", Exp: 7}
	less := api.Shape{Int: "1", Frac: "5", Exp: -7}
	for _, zero := range zeros {
		d := func(digits string) string { return in(zero, digits) }
		s := plainly(zero)
		for _, c := range []struct{ got, want string }{
			{Core(p, s, x), d("1") + "G" + d("234") + "D" + d("5")},
			{Core(sci, s, plus), d("1") + "D" + d("5") + "EP" + d("07")},
			{Core(sci, s, less), d("1") + "D" + d("5") + "EM" + d("07")},
		} {
			if c.got != c.want {
				t.Errorf("zero %x: %q, want %q", zero, c.got, c.want)
			}
		}
	}
	// A symbol may be of several characters, or look like another thing.
	s := plainly('0')
	s.Group, s.Decimal, s.E, s.Plus, s.Minus = "0", "''", "*10^", "0123456789abcdef", "%s"
	for _, c := range []struct{ got, want string }{
		{Core(p, s, x), "10234''5"}, {Core(sci, s, plus), "1''5*10^0123456789abcdef07"}, {Core(sci, s, less), "1''5*10^%s07"},
	} {
		if c.got != c.want {
			t.Errorf("%q, want %q", c.got, c.want)
		}
	}
}

// TestFormat: by each sort of pattern.
func TestFormat(t *testing.T) {
	s := symbol.Latin()
	for _, c := range []struct {
		text   string
		m      int
		d      api.Dec
		wanted string
	}{
		{"0", api.Exact, of("5", 0), "5"}, {"0", api.Exact, minusOf("5", 0), "-5"}, {"0", api.Exact, of("0012", 3), "12000"}, {"000", api.Exact, minusOf("7", 0), "-007"}, {"#", api.Exact, of("0", 9), "0"},
		{"0", api.HalfEven, minusOf("4", -1), "-0"}, {"0", api.Exact, minusOf("0", 0), "-0"}, {"0;(0)", api.Ceiling, minusOf("9", -1), "(0)"}, {"0;(0)", api.Ceiling, of("0", 0), "0"}, {"0", api.HalfEven, of("25", -1), "2"}, {"0", api.HalfUp, of("25", -1), "3"}, {"0", api.HalfDown, of("25", -1), "2"}, {"0", api.Floor, minusOf("21", -1), "-3"}, {"0", api.Up, of("21", -1), "3"}, {"0", api.Down, of("29", -1), "2"}, {"0", api.Ceiling, of("21", -1), "3"},
		{"0.00", api.HalfUp, of("999995", -3), "1000.00"}, {"#,##0.00", api.HalfUp, of("999995", -3), "1,000.00"}, {"0.0#", api.Exact, of("10", -1), "1.0"}, {"0.0#", api.Exact, of("125", -2), "1.25"}, {"#.##", api.Exact, of("12", 0), "12"}, {".00", api.Exact, of("0", 0), ".00"}, {".00", api.Exact, minusOf("15", -1), "-1.50"},
		{"+0;-0", api.Exact, of("5", 0), "+5"}, {"+0;-0", api.Exact, minusOf("5", 0), "-5"}, {"0-;0+", api.Exact, of("5", 0), "5-"}, {"0-;0+", api.Exact, minusOf("5", 0), "5+"}, {"a0b;c0d", api.Exact, of("5", 0), "a5b"}, {"a0b;c0d", api.Exact, minusOf("5", 0), "c5d"}, {"a0b", api.Exact, minusOf("5", 0), "-a5b"},
		{"'#'0''", api.Exact, of("12", 0), "#12'"}, {"'-'0'%'", api.Exact, of("12", 0), "-12%"}, {"'1'0'2'", api.Exact, of("3", 0), "132"}, {"\u00a4 #,##0.00", api.Exact, of("5", 0), "\u00a4 5.00"}, {"\U0001f6000\u20ac", api.Exact, minusOf("5", 0), "-\U0001f6005\u20ac"},
		{"0%", api.HalfUp, of("255", -3), "26%"}, {"0\u2030", api.Exact, minusOf("1", -3), "-1\u2030"}, {"%0.0", api.Up, of("1", -9), "%0.1"}, {"0;0%", api.Exact, of("5", 0), "500"}, {"0;0%", api.Exact, minusOf("5", 0), "500%"}, {"0;\u20300", api.Exact, of("5", 0), "5000"}, {"0'%'", api.Exact, of("5", 0), "5%"},
		{"@@@", api.HalfUp, of("12345", -2), "123"}, {"@@", api.HalfEven, of("12345", 0), "12000"}, {"#,@@#", api.HalfEven, of("12345", 0), "12,300"}, {"@@@", api.Exact, of("0", 0), "0.00"}, {"@@#", api.Exact, of("1", -3), "0.0010"}, {"@##%", api.Down, of("98765", -5), "98.7%"},
		{"0.25", api.Exact, of("75", 0), "75.00"}, {"#50", api.HalfUp, of("75", 0), "100"}, {"#,#50", api.HalfUp, of("123456", -1), "12,350"}, {"0.05%", api.HalfUp, of("12347", -6), "1.25%"}, {"7", api.HalfEven, of("35", -1), "0"},
		{"0.00E+00", api.HalfEven, of("12345", -9), "1.23E-05"}, {"0.00E+00", api.HalfEven, of("12345", 9), "1.23E+13"}, {"0E0", api.Exact, minusOf("9", -12), "-9E-12"}, {"##0.0E0", api.Exact, of("0", 0), "0.0E0"}, {"##0.##E0", api.HalfUp, of("99999", 0), "100E3"}, {"00.0E0", api.Exact, of("1", 0), "10.0E-1"}, {".##E0", api.Exact, of("12", 3), ".12E5"}, {".##E0", api.Exact, of("0", 0), "0E0"}, {"#E0", api.Exact, minusOf("0", 0), "-0E0"}, {"@@#E0", api.HalfUp, of("12345", -9), "1.23E-5"}, {"0.0E0%", api.HalfUp, of("12345", 0), "1.2E6%"}, {"a0E0b", api.Exact, of("5", 3), "a5E3b"}, {"0E+0+", api.Exact, of("5", 3), "5E+3+"},
	} {
		want(t, c.text, s, c.m, c.d, c.wanted)
	}
	want(t, "#,##0.0%", arabic(), api.Down, minusOf("123456", -4), "\u200f-\u0661\u066c\u0662\u0663\u0664\u066b\u0665\u066a\u061c")
	want(t, "\u00a40.0E+00;(\u00a40)", arabic(), api.Exact, minusOf("15", 3), "(kr.\u0661\u066b\u0665\u0623\u0633\u200f+\u0660\u0664)")
	want(t, "+0\u2030;-0", arabic(), api.Exact, of("5", 0), "\u200f+\u0665\u0660\u0660\u0660\u0609")
}

// TestEnds: the greatest decimals, the finest ones, and as much of everything as there may be.
func TestEnds(t *testing.T) {
	s := symbol.Latin()
	want(t, "0", s, api.Exact, of(nines, 0), nines)
	want(t, "#,##0", s, api.Exact, minusOf(nines, 0), "-"+rep("999,", 99)+"999")
	want(t, "0\u2030", s, api.Exact, of(nines, 0), nines+"000\u2030")
	want(t, "@", s, api.Exact, of("1", -300), "0."+rep("0", 299)+"1")
	want(t, rep("@", 40), s, api.Exact, of("1", -300), "0."+rep("0", 299)+"1"+rep("0", 39))
	want(t, "0E0\u2030", s, api.Exact, of("9", 299), "9E302\u2030")
	want(t, rep("0", 40)+"."+rep("0", 40)+"E000000000", s, api.Exact, of("1", -300), "1"+rep("0", 39)+"."+rep("0", 40)+"E-000000339")
	want(t, rep("0", 40)+"."+rep("0", 40), s, api.Exact, of("1", -40), rep("0", 40)+"."+rep("0", 39)+"1")
	want(t, "#,"+rep("0", 40), s, api.Exact, of("1", 299), "1"+rep("0", 19)+rep(","+rep("0", 40), 7))
	want(t, "0", s, api.Exact, of(rep("0", 1000), 1000), "0")
	want(t, "0", s, api.Exact, of(rep("0", 699)+nines+"0", -1), nines)
	wide := plainly(0x1d7ce)
	wide.Group, wide.Currency, wide.Minus = rep("\u20ac", 5), rep("\u00e9", 8), rep("m", 16)
	digits := in(0x1d7ce, "999")
	want(t, rep("\u00a4", 40)+"#,##0"+rep("-", 40), wide, api.Exact, of(nines, 0), rep("\u00e9", 320)+rep(digits+wide.Group, 99)+digits+rep("m", 640))
}

// padding is ab#,##0.0cd;(0), padded with r at the place to the width.
func padding(t *testing.T, at int, r rune, width int) api.Pattern {
	t.Helper()
	p := compiled(t, "ab#,##0.0cd;(0)")
	p.PadAt, p.Pad, p.Width = at, r, width
	if !print.Good(p) {
		t.Fatalf("%+v is not good", p)
	}
	return p
}

// TestPadding: at each place, both signs.
func TestPadding(t *testing.T) {
	s := symbol.Latin()
	for _, c := range []struct{ text, above, below string }{
		{"*xa#,##0b", "xxxa12b", "xx-a12b"},
		{"a*x#,##0b", "axxx12b", "-axx12b"},
		{"a#,##0*xb", "a12xxxb", "-a12xxb"},
		{"a#,##0b*x", "a12bxxx", "-a12bxx"},
		{"*xa#,##0b;(0)", "xxxa12b", "xxx(12)"},
		{"a*x#,##0b;(0)", "axxx12b", "(xxx12)"},
		{"a#,##0*xb;(0)", "a12xxxb", "(12xxx)"},
		{"a#,##0b*x;(0)", "a12bxxx", "(12)xxx"},
		{"*x#,##0", "xxx12", "xx-12"},
		{"#,##0*x", "12xxx", "-12xx"},
		{"*x#,##0;(0)", "xxx12", "x(12)"},
		{"#,##0*x;(0)", "12xxx", "(12x)"},
		{"*x0000", "0012", "-0012"},
		{"*x00", "12", "-12"},
		{"*x0", "12", "-12"},
		{"*x0.00", "12.00", "-12.00"},
		{"*x##0.00", "x12.00", "-12.00"},
		{"*x0.0E+000", "1.2E+001", "-1.2E+001"},
		{"*x##0.0#E+0", "xxxx12E+0", "xxx-12E+0"},
		{"*x@@@##", "x12.0", "-12.0"},
		{"*''####0", "'''12", "''-12"},
		{"*###0", "#12", "-12"},
		{"**##0", "*12", "-12"},
		{"*;##0;(0)", ";12", "(12)"},
		{"*\x00###0", "\x00\x0012", "\x00-12"},
		{"*\ufffd###0", "\ufffd\ufffd12", "\ufffd-12"},
		{"*\U0001f600###0\u20ac", "\U0001f600\U0001f60012\u20ac", "\U0001f600-12\u20ac"},
		{"* ###0%", "1200%", "-1200%"},
		{"* ####0%", " 1200%", "-1200%"},
		{"*5###0", "5512", "5-12"},
	} {
		want(t, c.text, s, api.Exact, of("12", 0), c.above)
		want(t, c.text, s, api.Exact, minusOf("12", 0), c.below)
	}
}

// TestPadWidths: as many stand as lack of each width, none where there are enough, counted in code points, not in bytes or items.
func TestPadWidths(t *testing.T) {
	for _, zero := range zeros {
		for _, pad := range []rune{'x', 0, ' ', '\'', '\u00a0', '\u20ac', '\ufffd', '\U0001f600', '\U0010ffff'} {
			s := plainly(zero)
			s.Decimal, s.Group, s.Minus = "\u066b", "\u200f,", "\u2212\U0001f600"
			core := in(zero, "12") + s.Group + in(zero, "345") + s.Decimal + in(zero, "6")
			for _, width := range []int{11, 12, 13, 14, 15, 16, 17, 40, 300} {
				for at, cut := range map[int][2]string{
					api.BeforePrefix: {"", "ab" + core + "cd"}, api.AfterPrefix: {"ab", core + "cd"}, api.BeforeSuffix: {"ab" + core, "cd"}, api.AfterSuffix: {"ab" + core + "cd", ""},
				} {
					p := padding(t, at, pad, width)
					wanted := cut[0] + rep(string(pad), max(0, width-13)) + cut[1]
					if got, e := Format(p, s, api.Exact, of("123456", -1)); got != wanted || e != api.OK {
						t.Errorf("zero %x, %q at %d to %d: %q, %d, want %q", zero, pad, at, width, got, e, wanted)
					}
					if got := hold(t, p, s, api.Exact, minusOf("123456", -1)); utf8.RuneCountInString(got) != max(11, width) || !strings.Contains(got, core) {
						t.Errorf("zero %x, %q at %d to %d: %q", zero, pad, at, width, got)
					}
				}
			}
		}
	}
}

// TestPadSigns: what a sign is written as counts by its own code points, not as the one item it is.
func TestPadSigns(t *testing.T) {
	s := plainly('0')
	s.Currency, s.Minus, s.Percent = "\u00e9\u00e9\u00e9", "--", "%%%%"
	want(t, "*x\u00a4####0", s, api.Exact, of("7", 0), "xx\u00e9\u00e9\u00e97")
	want(t, "*x\u00a4####0", s, api.Exact, minusOf("7", 0), "--\u00e9\u00e9\u00e97")
	want(t, "\u00a4*x####0", s, api.Exact, of("77", 0), "\u00e9\u00e9\u00e9x77")
	want(t, "\u00a4*x####0", s, api.Exact, of("777", 0), "\u00e9\u00e9\u00e9777")
	want(t, "\u00a4*x####0", s, api.Exact, of("7777", 0), "\u00e9\u00e9\u00e97777")
	want(t, "####0*x%", s, api.Exact, of("0", 0), "0x%%%%")
	want(t, "####0*x%", s, api.Exact, of("7", -1), "70%%%%")
	// Nothing lacks where there is no padding, however short the text is.
	want(t, "aaaa#,###,##0bbbb;0", s, api.Exact, minusOf("7", 0), "7")
}

// badPatterns are such as no text tells.
func badPatterns() []api.Pattern {
	minus := []api.Item{{Kind: api.Minus}}
	good := api.Pattern{MinInt: 1, NegPrefix: minus}
	list := []api.Pattern{{}, {MinInt: 1}, {MinInt: 1, NegPrefix: minus, NegSuffix: minus}, {Sci: true}}
	for _, change := range []func(p *api.Pattern){
		func(p *api.Pattern) { p.MinInt = 41 }, func(p *api.Pattern) { p.MinInt = -1 }, func(p *api.Pattern) { p.MinInt = math.MaxInt }, func(p *api.Pattern) { p.MaxInt = 1 },
		func(p *api.Pattern) { p.MinFrac = 1 }, func(p *api.Pattern) { p.MaxFrac = 41 }, func(p *api.Pattern) { p.MaxFrac = math.MinInt }, func(p *api.Pattern) { p.MinSig, p.MaxSig = 1, 1 }, func(p *api.Pattern) { p.MaxSig = 1 },
		func(p *api.Pattern) { p.Primary = 3 }, func(p *api.Pattern) { p.Secondary = 3 }, func(p *api.Pattern) { p.Primary, p.Secondary = 41, 41 }, func(p *api.Pattern) { p.Inc = "0" }, func(p *api.Pattern) { p.Inc = "05" }, func(p *api.Pattern) { p.Inc = "x" },
		func(p *api.Pattern) { p.Sci = true }, func(p *api.Pattern) { p.MinExp = 1 }, func(p *api.Pattern) { p.PlusExp = true }, func(p *api.Pattern) { p.Sci, p.MaxInt, p.MinExp = true, 1, 10 }, func(p *api.Pattern) { p.Sci, p.MaxInt, p.MinExp = true, 1, math.MaxInt },
		func(p *api.Pattern) { p.Pad = 'x' }, func(p *api.Pattern) { p.Width = 1 }, func(p *api.Pattern) { p.PadAt = 1 }, func(p *api.Pattern) { p.PadAt, p.Pad, p.Width = 5, 'x', 5 }, func(p *api.Pattern) { p.PadAt, p.Pad, p.Width = -1, 'x', 5 }, func(p *api.Pattern) { p.PadAt, p.Pad, p.Width = 1, 'x', 401 }, func(p *api.Pattern) { p.PadAt, p.Pad, p.Width = 1, 'x', math.MaxInt }, func(p *api.Pattern) { p.PadAt, p.Pad, p.Width = 1, 0xd800, 5 }, func(p *api.Pattern) { p.PadAt, p.Pad, p.Width = 1, -1, 5 },
		func(p *api.Pattern) { p.Prefix = minus }, func(p *api.Pattern) { p.NegSuffix = minus }, func(p *api.Pattern) { p.HasNeg, p.NegPrefix = true, []api.Item{{Kind: 7}} }, func(p *api.Pattern) { p.HasNeg, p.NegPrefix = true, []api.Item{{Kind: 2, R: 'a'}} }, func(p *api.Pattern) { p.HasNeg, p.NegPrefix = true, []api.Item{{Kind: 1, R: 0xdfff}} }, func(p *api.Pattern) { p.HasNeg, p.NegPrefix = true, slices.Repeat(minus, 41) }, func(p *api.Pattern) {
			p.HasNeg, p.NegPrefix, p.NegSuffix = true, []api.Item{{Kind: 4}}, []api.Item{{Kind: 5}}
		},
	} {
		p := good
		change(&p)
		list = append(list, p)
	}
	return list
}

// badSymbols are such as may not be.
func badSymbols() []api.Symbols {
	list := []api.Symbols{{}}
	for _, zero := range []rune{-1, math.MinInt32, math.MaxInt32, 0xd7f7, 0xd800, 0xdfff, 0x10fff7, 0x110000} {
		list = append(list, plainly(zero))
	}
	for i := range 8 {
		for _, text := range []string{"", rep("a", 17), "\xff", "a\xe2\x82", "\xed\xa0\x80", rep("\u20ac", 6)} {
			s := plainly('0')
			*[]*string{&s.Decimal, &s.Group, &s.Minus, &s.Plus, &s.Percent, &s.Permille, &s.Currency, &s.E}[i] = text
			list = append(list, s)
		}
	}
	return list
}

// TestErrors: each error, and which of several is told.
func TestErrors(t *testing.T) {
	good, step := compiled(t, "#,##0.0"), compiled(t, "*x0.25;(0)")
	s := symbol.Latin()
	badDecs := []api.Dec{{}, of("x", 0), of("", 5), of("-1", 0), of("1.5", 0), of("\u0663", 0), of(rep("0", 1001), 0), of("0", 1001), of("0", -1001), of("1", math.MinInt), of("1", math.MaxInt)}
	far := []api.Dec{of("1", 300), minusOf("1", 300), of("1", -301), of(rep("9", 1000), -500), of("1", 1000), of("1", -1000)}
	fine := []api.Dec{of("0", 0), of("5", -1), minusOf("0012500", -3)}
	inexact := []api.Dec{of("12345", -4), minusOf("1", -300)}
	holdError := func(p api.Pattern, s api.Symbols, m int, d api.Dec, want api.Errno) {
		t.Helper()
		if got, e := Format(p, s, m, d); got != "" || e != want {
			t.Errorf("Format(%+v, %+q, %d, %v) = %q, %d, want %d", p, s, m, d, got, e, want)
		}
	}
	every := slices.Concat(badDecs, far, fine, inexact)
	for _, d := range every {
		for _, m := range append(slices.Clone(ways), noWays...) {
			for _, p := range badPatterns() {
				holdError(p, s, m, d, api.ErrArg)
				holdError(p, api.Symbols{}, m, d, api.ErrArg)
			}
			for _, bad := range badSymbols() {
				holdError(good, bad, m, d, api.ErrSymbol)
			}
		}
		for _, m := range noWays {
			holdError(good, s, m, d, api.ErrArg)
			holdError(step, s, m, d, api.ErrArg)
		}
	}
	for _, p := range []api.Pattern{good, step} {
		for _, m := range ways {
			for _, d := range badDecs {
				holdError(p, s, m, d, api.ErrDigits)
			}
			for _, d := range far {
				holdError(p, s, m, d, api.ErrRange)
			}
			for _, d := range fine {
				if got := hold(t, p, s, m, d); got == "" {
					t.Errorf("Format of %v by way %d is empty", d, m)
				}
			}
		}
		for _, d := range inexact {
			holdError(p, s, api.Exact, d, api.ErrInexact)
		}
	}
	// What is rounded out of the range.
	holdError(compiled(t, "@"), s, api.Up, of(nines, 0), api.ErrRange)
	holdError(compiled(t, "8"), s, api.Floor, minusOf(nines, 0), api.ErrRange)
	want(t, "@", s, api.Down, of(nines, 0), "9"+rep("0", 299))
}

// samples are decimals of all sorts, with both signs.
func samples() []api.Dec {
	var list []api.Dec
	for _, digits := range []string{"0", "000", "1", "5", "7", "10", "25", "049", "995", "9995", "12345", "99999", "1500", "4999999999", "123456789012345678901234567890"} {
		for _, exp := range []int{-31, -12, -6, -5, -4, -3, -2, -1, 0, 1, 2, 3, 4, 7} {
			list = append(list, of(digits, exp), minusOf(digits, exp))
		}
	}
	return list
}

// texts calls do with all rows of up to n parts.
func texts(parts []string, n int, do func(string)) {
	var extend func(s string, left int)
	extend = func(s string, left int) {
		do(s)
		for _, part := range parts {
			if left > 0 {
				extend(s+part, left-1)
			}
		}
	}
	extend("", n)
}

// TestAll: all short patterns of several sets of parts, each with some decimals, by several symbols.
func TestAll(t *testing.T) {
	list := samples()
	tables := []api.Symbols{symbol.Latin(), arabic(), plainly(0x1d7ce), plainly('a')}
	seen := map[string]bool{}
	next := 0
	for _, set := range []struct {
		n     int
		parts []string
	}{
		{6, []string{"#", "0", "5", ".", "@"}},
		{6, []string{"#", "0", ".", "E0"}},
		{6, []string{"#", "0", ",", "@"}},
		{5, []string{"#", "@", "E+00", "%", ","}},
		{6, []string{"#", "0", "*x", ";", "-", "a"}},
		{5, []string{"0", "\u2030", "* ", ";", "\u00a4", "2.5"}},
	} {
		texts(set.parts, set.n, func(text string) {
			p, fault := pattern.Compile(text)
			key := print.Print(p)
			if fault.E != api.OK || seen[key] {
				return
			}
			seen[key] = true
			for range 8 {
				d := list[next%len(list)]
				hold(t, p, tables[next%len(tables)], ways[next/3%len(ways)], d)
				next += 11
			}
		})
	}
	if len(seen) < 1500 {
		t.Errorf("only %d patterns", len(seen))
	}
}

// sorts are patterns of each sort.
var sorts = []string{
	"0", "#", "000", "#,##0.00", "#,##,##0.###", "#.##", ".0#", "0.0%", "#.#\u2030", "@", "@@#", "#,@@#", "@@@%", "0.25", "#,#50", "0.7%",
	"0E0", "0.0#E+0", "00.#E00", ".0#E0", "#.#E+000", "##0.##E0", "##0.00E+00", "##00.#E0", "##E0", "@E0", "@@#E0", "0E0\u2030",
	"*x#,##0.0;(0)", "a*x###,##0b", "a#,##0*xb;(0)", "a#,##0b*x", "*x##0.##E+0", "*x#,@@##", "\u00a4#,##0.00;(\u00a4#)", "+0;-0", "-0+;+0-",
}

// TestWays: what is written by a way is what is written by Exact of what is rounded by that way, and so again by every way.
func TestWays(t *testing.T) {
	list := samples()
	for i, text := range sorts {
		p := compiled(t, text)
		s := []api.Symbols{symbol.Latin(), arabic(), plainly(0x1d7ce)}[i%3]
		for j, d := range list {
			for _, m := range ways {
				got := hold(t, p, s, m, d)
				rounded, e := shape.Round(p, m, d)
				if e != api.OK || j%5 > 0 {
					continue
				}
				for _, again := range ways {
					if text, e := Format(p, s, again, rounded); text != got || e != api.OK {
						t.Errorf("Format(%q, %d, %v) = %q, %d, want %q", print.Print(p), again, rounded, text, e, got)
					}
				}
			}
		}
	}
}

// power is ten to the power n, as the library's own.
func power(n int) *big.Rat {
	size := new(big.Int).Exp(big.NewInt(10), big.NewInt(int64(max(n, -n))), nil)
	if n < 0 {
		return new(big.Rat).SetFrac(big.NewInt(1), size)
	}
	return new(big.Rat).SetInt(size)
}

// value is d without its sign, times ten to the power mult.
func value(d api.Dec, mult int) *big.Rat {
	coef, _ := new(big.Int).SetString(d.Digits, 10)
	return new(big.Rat).Mul(new(big.Rat).SetInt(coef), power(d.Exp+mult))
}

// read takes a text apart that p and plainly(zero) made: what is left of it without the padding, the pair and the groups is a number as the library reads it.
func read(t *testing.T, p api.Pattern, zero rune, neg bool, text string) *big.Rat {
	t.Helper()
	s := plainly(zero)
	if p.PadAt != api.NoPad {
		text = strings.ReplaceAll(text, string(p.Pad), "")
	}
	prefix, suffix := clear.Pair(p, s, neg)
	core, ahead := strings.CutPrefix(text, prefix)
	core, behind := strings.CutSuffix(core, suffix)
	if !ahead || !behind {
		t.Errorf("%q is not between %q and %q", text, prefix, suffix)
	}
	core = strings.ReplaceAll(core, "G", "")
	core = strings.NewReplacer("D", ".", "M", "-", "P", "+").Replace(core)
	core = strings.Map(func(r rune) rune {
		if r >= zero && r <= zero+9 {
			return '0' + r - zero
		}
		return r
	}, core)
	number, ok := new(big.Rat).SetString(core)
	if !ok {
		t.Errorf("%q is no number: %q", text, core)
		return new(big.Rat)
	}
	return number
}

// TestValue: the digits that are written, read by other means, are the value that is written.
func TestValue(t *testing.T) {
	for i, text := range sorts {
		p := compiled(t, text)
		mult := 0
		if strings.Contains(text, "%") {
			mult = 2
		}
		if strings.Contains(text, "\u2030") {
			mult = 3
		}
		zero := []rune{'0', 0x660, 0x1d7ce}[i%3]
		for j, d := range samples() {
			m := ways[(i+j)%7]
			rounded, e := shape.Round(p, m, d)
			got, formatError := Format(p, plainly(zero), m, d)
			if e != formatError {
				t.Errorf("Format(%q, %d, %v) = %q, %d, want %d", text, m, d, got, formatError, e)
			}
			if e != api.OK {
				continue
			}
			if number := read(t, p, zero, d.Neg, got); number.Cmp(value(rounded, mult)) != 0 {
				t.Errorf("Format(%q, %d, %v) = %q, which is %v", text, m, d, got, number)
			}
		}
	}
}

// TestOneByOne: what is clear writes two values as two texts, and one as one, its sign included.
func TestOneByOne(t *testing.T) {
	for _, text := range sorts {
		p := compiled(t, text)
		for _, s := range []api.Symbols{symbol.Latin(), arabic()} {
			if !clear.Clear(p, s) {
				t.Errorf("%q is not clear", text)
			}
			values, written := map[string]api.Dec{}, map[api.Dec]string{}
			for _, d := range samples() {
				for _, m := range ways {
					got, e := Format(p, s, m, d)
					if e != api.OK {
						continue
					}
					rounded, _ := shape.Round(p, m, d)
					if other, ok := values[got]; ok && other != rounded {
						t.Errorf("%q writes %v and %v as %q", text, rounded, other, got)
					}
					if other, ok := written[rounded]; ok && other != got {
						t.Errorf("%q writes %v as %q and %q", text, rounded, got, other)
					}
					values[got], written[rounded] = rounded, got
				}
			}
			if len(values) < 20 {
				t.Errorf("%q writes only %d texts", text, len(values))
			}
		}
	}
}

// TestHalves: without a second half all goes as with the first one behind a minus; the second half's number counts for nothing; by what is printed all goes alike.
func TestHalves(t *testing.T) {
	s := arabic()
	for _, text := range []string{"0", "#,##0.00", "a0b", "0.0%", "\u00a4@@#", "-0+", "##0.##E+0", "'-'0", "0.25\u2030"} {
		alone, both, other := compiled(t, text), compiled(t, text+";-"+text), compiled(t, text+";-"+strings.NewReplacer("#,##0.00", "0.0E0", "@@#", "##0").Replace(text))
		printed := compiled(t, print.Print(alone))
		for _, d := range samples() {
			for _, m := range ways {
				want, wantError := Format(alone, s, m, d)
				for _, p := range []api.Pattern{both, other, printed} {
					if got, e := Format(p, s, m, d); got != want || e != wantError {
						t.Errorf("Format(%q, %d, %v) = %q, %d, want %q, %d", print.Print(p), m, d, got, e, want, wantError)
					}
				}
			}
		}
	}
}

// TestRandom: long decimals by patterns with much of everything.
func TestRandom(t *testing.T) {
	random := rand.New(rand.NewSource(22))
	pick := func(list ...string) string { return list[random.Intn(len(list))] }
	some := func(s string, most int) string { return rep(s, random.Intn(most+1)) }
	affix := func() string {
		out := ""
		for range random.Intn(4) {
			out += pick("a", "b", "-", "+", "\u00a4", "'.'", "\u20ac", "'E'", " ", "\x00", "\ufffd", "'7'", "''")
		}
		return out
	}
	done := 0
	for range 6000 {
		number := some("#", 20) + some("0", 12)
		switch random.Intn(5) {
		case 0:
			number = some("#", 3) + "@" + some("@", 12) + some("#", 12)
		case 1:
			number += "0." + some("0", 20) + some("#", 20)
		case 2:
			number = some("#", 28) + some("0", 12) + ".0#E" + pick("", "+") + some("0", 8) + "0"
		case 3:
			number = some("#", 9) + pick("", some("#", 4)+"#,") + "#" + some("#", 5) + "," + some("#", 5) + "0" + some("0", 3) + "." + some("0", 3) + some("#", 3)
		case 4:
			number += some("05", 9) + "." + some("0", 3) + some("7", 3) + "5"
		}
		text := []string{affix(), number, affix() + pick("", "", "%", "\u2030")}
		if random.Intn(2) == 0 {
			pad := pick("*x", "* ", "*''", "*\x00", "*\ufffd", "*7", "*\U0001f600")
			switch random.Intn(4) {
			case 0:
				text[0] = pad + text[0]
			case 1:
				text[0] += pad
			case 2:
				text[2] = pad + text[2]
			case 3:
				text[2] += pad
			}
		}
		whole := strings.Join(text, "")
		if random.Intn(2) == 0 {
			whole += ";" + affix() + "0" + affix()
		}
		p, fault := pattern.Compile(whole)
		if fault.E != api.OK {
			continue
		}
		done++
		s := symbol.Latin()
		s.Zero = zeros[random.Intn(len(zeros))]
		for _, one := range []*string{&s.Decimal, &s.Group, &s.Minus, &s.Plus, &s.Percent, &s.Permille, &s.Currency, &s.E} {
			if random.Intn(3) == 0 {
				*one = pick("a", ".", ",", "-", "''", "\u066b", "\u20ac", "ab", "\u2212", "-\u200e", "\x00", "x10^", "\ufffd", "0", "\U0001f600\U0001f600")
			}
		}
		for range 3 {
			digits := some("0", 2) + string(rune('0'+random.Intn(10))) + some("9", []int{2, 30, 300}[random.Intn(3)]) + string(rune('0'+random.Intn(10))) + some("0", 9)
			d := api.Dec{Neg: random.Intn(2) == 0, Digits: digits, Exp: random.Intn(60) - 30 - len(digits)/2}
			hold(t, p, s, ways[random.Intn(8)], d)
		}
	}
	if done < 4000 {
		t.Errorf("only %d are patterns", done)
	}
}

// share tells whether two texts have a byte of memory in common.
func share(a, b string) bool {
	if a == "" || b == "" {
		return false
	}
	from, at := uintptr(unsafe.Pointer(unsafe.StringData(a))), uintptr(unsafe.Pointer(unsafe.StringData(b)))
	return from < at+uintptr(len(b)) && at < from+uintptr(len(a))
}

// TestMemory: what is handed in stays, spare room too, and what is answered shares nothing with it, or with another answer.
func TestMemory(t *testing.T) {
	for _, text := range []string{"0", "#.##", "a0b;c0d", "*x\u00a4#,##0.0%;-0+", "0E+00", "@@#"} {
		p, before := compiled(t, text), compiled(t, text)
		fields := func(p *api.Pattern) []*[]api.Item {
			return []*[]api.Item{&p.Prefix, &p.Suffix, &p.NegPrefix, &p.NegSuffix}
		}
		for _, items := range fields(&p) {
			room := append(slices.Clone(*items), api.Item{Kind: api.Percent}, api.Item{Kind: 99})
			*items = room[:len(room)-2]
		}
		s := plainly('0')
		s.Decimal, s.Group, s.Minus, s.E = rep("d", 3), rep("g", 3), rep("m", 3), rep("e", 3)
		handed := s
		var answers []string
		for _, digits := range []string{"0", "5", "12"} {
			d := api.Dec{Neg: true, Digits: strings.Clone(digits), Exp: -1}
			rounded, _ := shape.Round(p, api.HalfUp, d)
			x := shape.Lay(p, rounded)
			for range 2 {
				one, e := Format(p, s, api.HalfUp, d)
				same, sameError := Format(before, s, api.HalfUp, d)
				if one != same || e != sameError || e != api.OK {
					t.Errorf("with spare room Format(%q, %v) = %q, %d, want %q, %d", text, d, one, e, same, sameError)
				}
				answers = append(answers, one, Core(p, s, x))
			}
			for _, answer := range answers {
				for _, given := range []string{d.Digits, x.Int, x.Frac, s.Decimal, s.Group, s.Minus, s.E} {
					if share(answer, given) {
						t.Errorf("%q of %q shares memory with %q", answer, text, given)
					}
				}
			}
		}
		for i, a := range answers {
			for _, b := range answers[:i] {
				if share(a, b) {
					t.Errorf("answers %q and %q share memory", a, b)
				}
			}
		}
		for i, items := range fields(&p) {
			if room := (*items)[:len(*items)+2]; !slices.Equal(room[len(*items):], []api.Item{{Kind: api.Percent}, {Kind: 99}}) || !slices.Equal(*items, *fields(&before)[i]) {
				t.Errorf("%q: what is handed in is changed: %v", text, room)
			}
			*items = *fields(&before)[i]
		}
		if !reflect.DeepEqual(p, before) || s != handed {
			t.Errorf("%q: what is handed in is changed", text)
		}
	}
}

// TestAgain: no call has to do with those ahead of it.
func TestAgain(t *testing.T) {
	for range 3 {
		for i, text := range sorts {
			p := compiled(t, text)
			first, firstError := Format(p, symbol.Latin(), api.HalfEven, of("12345", -2))
			Format(p, api.Symbols{}, api.Exact, minusOf("7", 0))
			Format(compiled(t, sorts[len(sorts)-1-i]), arabic(), api.Up, minusOf("999", -4))
			if again, e := Format(p, symbol.Latin(), api.HalfEven, of("12345", -2)); again != first || e != firstError {
				t.Errorf("Format by %q = %q, %d, then %q, %d", text, first, firstError, again, e)
			}
		}
	}
}

// TestAny: every call of Format answers, and Core, of which nothing is promised then, ends.
func TestAny(t *testing.T) {
	numbers := []int{math.MinInt, math.MinInt32, -1, 0, 1, 4, 5, 41, math.MaxInt32, math.MaxInt}
	runes := []rune{math.MinInt32, -1, 0, '0', 0xd800, 0xfffd, 0x10ffff, 0x110000, math.MaxInt32}
	strange := []string{"", "a", "0", "12", "\xff", "\xe2\x82", "\u0661", rep("\u20ac", 1<<6)}
	for i := range 11 {
		for _, n := range numbers {
			for j, r := range runes {
				p := compiled(t, []string{"*x#,##0.0", "0.0E+00", "@@#", "0.25"}[j%4])
				*[]*int{&p.MinInt, &p.MaxInt, &p.MinFrac, &p.MaxFrac, &p.MinSig, &p.MaxSig, &p.Primary, &p.Secondary, &p.MinExp, &p.PadAt, &p.Width}[i] = n
				items := []api.Item{{Kind: n, R: r}, {Kind: 1, R: 'a'}}
				q := p
				q.Prefix, q.Suffix, q.NegPrefix, q.NegSuffix, q.Pad, q.Sci = items[:1], items, items[1:], nil, r, j%2 == 0
				for _, text := range strange {
					s := api.Symbols{Zero: r, Decimal: text, Group: text + "x", Minus: text, Plus: text, Percent: text, Permille: text, Currency: text, E: text}
					d := api.Dec{Neg: j%2 == 0, Digits: text, Exp: n}
					for _, one := range []api.Pattern{p, q} {
						first, e := Format(one, s, n, d)
						if again, sameError := Format(one, s, n, d); again != first || sameError != e {
							t.Errorf("Format(%+v, %+q, %d, %v) = %q, %d, then %q, %d", one, s, n, d, first, e, again, sameError)
						}
						x := api.Shape{Neg: d.Neg, Int: text, Frac: text, Exp: n}
						if a, b := Core(one, s, x), Core(one, s, x); a != b {
							t.Errorf("Core(%+v, %+q, %+v) = %q, then %q", one, s, x, a, b)
						}
					}
				}
			}
		}
	}
	long := slices.Repeat([]api.Item{{Kind: 1, R: 'a'}}, 1<<18)
	p := compiled(t, "0")
	p.Prefix = long
	if got, e := Format(p, symbol.Latin(), api.Up, of("1", 0)); got != "" || e != api.ErrArg {
		t.Errorf("Format by a long prefix = %d bytes, %d", len(got), e)
	}
}
