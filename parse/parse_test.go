package parse

import (
	"math"
	"math/rand"
	"reflect"
	"slices"
	"strings"
	"testing"
	"unicode/utf8"
	"unsafe"

	"figurehead/api"
	"figurehead/clear"
	"figurehead/dec"
	"figurehead/format"
	"figurehead/pattern"
	"figurehead/print"
	"figurehead/shape"
	"figurehead/symbol"
)

// ways are all eight; the first seven round.
var ways = []int{api.Ceiling, api.Floor, api.Up, api.Down, api.HalfEven, api.HalfUp, api.HalfDown, api.Exact}

// zeros are systems whose digits have from 1 to 4 bytes, at the ends of what is a code point, and one that has fffd.
var zeros = []rune{'0', '1', 0x660, 0x966, 0xff10, 0x1d7ce, 0, 0xd7f6, 0xe000, 0xfff4, 0x10fff6}

// nines are the greatest number in range.
var nines = strings.Repeat("9", api.MaxPlace)

// sorts are patterns of each sort.
var sorts = []string{
	"0", "#", "000", "#,##0.00", "#,##,##0.###", "#.##", ".0#", "0.0%", "#.#\u2030", "@", "@@#", "#,@@#", "@@@%", "0.25", "#,#50", "0.7%",
	"0E0", "0.0#E+0", "00.#E00", ".0#E0", "#.#E+000", "##0.##E0", "##0.00E+00", "##00.#E0", "##E0", "@E0", "@@#E0", "0E0\u2030",
	"*x#,##0.0;(0)", "a*x###,##0b", "a#,##0*xb;(0)", "a#,##0b*x", "*x##0.##E+0", "*x#,@@##", "\u00a4#,##0.00;(\u00a4#)", "+0;-0", "-0+;+0-",
}

// of makes a decimal that is not below 0.
func of(digits string, exp int) api.Dec {
	return api.Dec{Digits: digits, Exp: exp}
}

// minusOf makes the one below 0, -0 too.
func minusOf(digits string, exp int) api.Dec {
	return api.Dec{Neg: true, Digits: digits, Exp: exp}
}

// rep is s n times.
func rep(s string, n int) string {
	return strings.Repeat(s, n)
}

// arabic are symbols of more than a byte each, some of more than one code point.
func arabic() api.Symbols {
	return api.Symbols{Zero: 0x660, Decimal: "\u066b", Group: "\u066c", Minus: "\u200f-", Plus: "\u200f+", Percent: "\u066a\u061c", Permille: "\u0609", Currency: "kr.", E: "\u0623\u0633"}
}

// plainly are symbols that share no character with each other.
func plainly(zero rune) api.Symbols {
	return api.Symbols{Zero: zero, Decimal: "D", Group: "G", Minus: "M", Plus: "P", Percent: "C", Permille: "L", Currency: "Y", E: "E"}
}

// nested are symbols that have each other at their beginnings and ends.
func nested() api.Symbols {
	return api.Symbols{Zero: '0', Decimal: ".", Group: "..", Minus: "-.", Plus: "-", Percent: ".-", Permille: "...", Currency: "-.-", E: ".-."}
}

// compiled is the pattern that the text tells.
func compiled(t *testing.T, text string) api.Pattern {
	t.Helper()
	p, fault := pattern.Compile(text)
	if fault != (api.Fault{}) {
		t.Fatalf("%q is no pattern: %v", text, fault)
	}
	return p
}

// in writes the digits 0 to 9 in zero's system.
func in(zero rune, digits string) string {
	var out []rune
	for i := range len(digits) {
		out = append(out, zero+rune(digits[i]-'0'))
	}
	return string(out)
}

// hold holds Parse of a right text, by what is clear, against Format: either the answer is written as that text by every way, or there is none. It tells which.
func hold(t *testing.T, p api.Pattern, s api.Symbols, text string) (api.Dec, bool) {
	t.Helper()
	d, fault := Parse(p, s, text)
	if fault != (api.Fault{}) {
		if fault.E != api.ErrForm || fault.At < 0 || fault.At > len(text) || d != (api.Dec{}) {
			t.Errorf("Parse(%q, %+q, %q) = %v, %v", print.Print(p), s, text, d, fault)
		}
		return api.Dec{}, false
	}
	if !dec.Good(d) || d != dec.Norm(d) {
		t.Errorf("Parse(%q, %+q, %q) = %v, which is not as it should be", print.Print(p), s, text, d)
	}
	for _, m := range ways {
		if again, e := format.Format(p, s, m, d); again != text || e != api.OK {
			t.Errorf("Parse(%q, %+q, %q) = %v, which way %d writes as %q, %d", print.Print(p), s, text, d, m, again, e)
		}
	}
	return d, true
}

// back holds Parse of what Format writes by way m, if it writes anything, against what is rounded, and answers the text.
func back(t *testing.T, p api.Pattern, s api.Symbols, m int, d api.Dec) string {
	t.Helper()
	text, e := format.Format(p, s, m, d)
	if e != api.OK {
		return ""
	}
	rounded, _ := shape.Round(p, m, d)
	if got, ok := hold(t, p, s, text); !ok || got != rounded {
		t.Errorf("Parse(%q, %+q, %q) = %v, %v, want %v", print.Print(p), s, text, got, ok, rounded)
	}
	return text
}

// want holds Parse of a text against a decimal.
func want(t *testing.T, p string, s api.Symbols, text string, wanted api.Dec) {
	t.Helper()
	if got, ok := hold(t, compiled(t, p), s, text); !ok || got != wanted {
		t.Errorf("Parse(%q, %+q, %q) = %v, %v, want %v", p, s, text, got, ok, wanted)
	}
}

// none holds that texts are nothing.
func none(t *testing.T, p string, s api.Symbols, texts ...string) {
	t.Helper()
	for _, text := range texts {
		if got, ok := hold(t, compiled(t, p), s, text); ok {
			t.Errorf("Parse(%q, %+q, %q) = %v", p, s, text, got)
		}
	}
}

// TestExamples: the chapter's example, and the document's that can be read.
func TestExamples(t *testing.T) {
	s := symbol.Latin()
	want(t, "#,##0.00;(#)", s, "(1,234.50)", minusOf("12345", -1))
	none(t, "#,##0.00;(#)", s, "1234.50", "(1,234.5)", "01,234.50")
	want(t, "0.0%", s, "12.3%", of("123", -3))
	want(t, "##0.##E0", s, "12.3E3", of("123", 2))
	want(t, "@##", s, "0.00123", of("123", -5))
	want(t, "*x#,##0", s, "xxxx7", of("7", 0))
	none(t, "*x#,##0", s, "xxx7")
	want(t, "0.25", s, "0.50", of("5", -1))
	want(t, "#.##", s, "0", of("0", 0))
	want(t, "#.##", s, ".5", of("5", -1))
	want(t, "#,##,##0", s, "12,34,56,789", of("123456789", 0))
	if d, fault := Parse(compiled(t, "0;0"), s, "5"); d != (api.Dec{}) || fault != (api.Fault{E: api.ErrClear}) {
		t.Errorf("Parse by 0;0 = %v, %v", d, fault)
	}
}

// TestParse: by each sort of pattern.
func TestParse(t *testing.T) {
	s := symbol.Latin()
	for _, c := range []struct {
		p, text string
		wanted  api.Dec
	}{
		{"0", "5", of("5", 0)}, {"0", "-5", minusOf("5", 0)}, {"0", "12000", of("12", 3)}, {"000", "-007", minusOf("7", 0)}, {"#", "0", of("0", 0)}, {"0", "-0", minusOf("0", 0)}, {"0;(0)", "(0)", minusOf("0", 0)}, {"0;(0)", "0", of("0", 0)}, {"000", "000", of("0", 0)}, {"#", "-0", minusOf("0", 0)},
		{"0.00", "1000.00", of("1", 3)}, {"#,##0.00", "1,000.00", of("1", 3)}, {"0.0#", "1.0", of("1", 0)}, {"0.0#", "1.25", of("125", -2)}, {"#.##", "12", of("12", 0)}, {"#.##", ".05", of("5", -2)}, {".00", ".00", of("0", 0)}, {".00", "-.00", minusOf("0", 0)}, {".00", "-1.50", minusOf("15", -1)}, {".00", ".50", of("5", -1)},
		{"+0;-0", "+5", of("5", 0)}, {"+0;-0", "-5", minusOf("5", 0)}, {"0-;0+", "5-", of("5", 0)}, {"0-;0+", "5+", minusOf("5", 0)}, {"a0b;c0d", "a5b", of("5", 0)}, {"a0b;c0d", "c5d", minusOf("5", 0)}, {"a0b", "-a5b", minusOf("5", 0)}, {"a0;0a", "5a", minusOf("5", 0)}, {"a0;ab0", "ab5", minusOf("5", 0)}, {"0a;0ba", "5ba", minusOf("5", 0)}, {"(0;(0)", "(5)", minusOf("5", 0)}, {"(0;(0)", "(5", of("5", 0)}, {"-0;0", "5", minusOf("5", 0)}, {"-0;0", "-5", of("5", 0)},
		{"'#'0''", "#12'", of("12", 0)}, {"'-'0'%'", "-12%", of("12", 0)}, {"'-'0'%'", "--12%", minusOf("12", 0)}, {"\u00a4 #,##0.00", "\u00a4 5.00", of("5", 0)}, {"\U0001f6000\u20ac", "-\U0001f6005\u20ac", minusOf("5", 0)}, {"E0'E'", "E5E", of("5", 0)}, {"'.'a0'.'", ".a5.", of("5", 0)}, {"','0','", ",5,", of("5", 0)}, {"','.0','", ",.5,", of("5", -1)}, {"\ufffd0", "\ufffd5", of("5", 0)},
		{"0%", "26%", of("26", -2)}, {"0\u2030", "-1\u2030", minusOf("1", -3)}, {"%0.0", "%0.1", of("1", -3)}, {"0;0%", "500", of("5", 0)}, {"0;0%", "500%", minusOf("5", 0)}, {"0;\u20300", "5000", of("5", 0)}, {"0'%'", "5%", of("5", 0)}, {"0%", "0%", of("0", 0)}, {"0%", "-0%", minusOf("0", 0)},
		{"@@@", "123", of("123", 0)}, {"@@", "12000", of("12", 3)}, {"#,@@#", "12,300", of("123", 2)}, {"@@@", "0.00", of("0", 0)}, {"@@#", "0.0010", of("1", -3)}, {"@##%", "98.7%", of("987", -3)}, {"@@", "1.0", of("1", 0)}, {"@", "0", of("0", 0)},
		{"0.25", "75.00", of("75", 0)}, {"#50", "100", of("1", 2)}, {"#,#50", "12,350", of("1235", 1)}, {"0.05%", "1.25%", of("125", -4)}, {"7", "14", of("14", 0)}, {"7", "-0", minusOf("0", 0)},
		{"0.00E+00", "1.23E-05", of("123", -7)}, {"0.00E+00", "1.23E+13", of("123", 11)}, {"0.00E+00", "0.00E+00", of("0", 0)}, {"0E0", "-9E-12", minusOf("9", -12)}, {"##0.0E0", "0.0E0", of("0", 0)}, {"##0.##E0", "100E3", of("1", 5)}, {"00.0E0", "10.0E-1", of("1", 0)}, {".##E0", ".12E5", of("12", 3)}, {".##E0", "-.12E5", minusOf("12", 3)}, {".##E0", "0E0", of("0", 0)}, {"#E0", "-0E0", minusOf("0", 0)}, {"@@#E0", "1.23E-5", of("123", -7)}, {"0.0E0%", "1.2E6%", of("12", 3)}, {"a0E0b", "a5E3b", of("5", 3)}, {"0E+0+", "5E+3+", of("5", 3)}, {"0E+0-;0E+0+", "5E-3+", minusOf("5", -3)}, {"0E000000000", "5E000000012", of("5", 12)}, {"0000E0", "1234E-4", of("1234", -4)},
	} {
		want(t, c.p, s, c.text, c.wanted)
	}
	want(t, "#,##0.0%", arabic(), "\u200f-\u0661\u066c\u0662\u0663\u0664\u066b\u0665\u066a\u061c", minusOf("12345", -3))
	want(t, "\u00a40.0E+00;(\u00a40)", arabic(), "(kr.\u0661\u066b\u0665\u0623\u0633\u200f+\u0660\u0664)", minusOf("15", 3))
	want(t, "+0\u2030;-0", arabic(), "\u200f+\u0665\u0660\u0660\u0660\u0609", of("5", 0))
}

// TestNothing: what is written otherwise than it would be is nothing, however near it is.
func TestNothing(t *testing.T) {
	s := symbol.Latin()
	for p, texts := range map[string][]string{
		"0":            {"", " ", "-", "+", "00", "05", "-05", "+5", "--5", "- 5", "5-", " 5", "5 ", "5.", "5.0", ".5", "1,000", "1.000", "5E0", "5e0", "0x5", "1_000", "five", "\u0665", "\uff15", "5\x00", "\x005", "5\n", "(5)", "5%", "\u22125", "1 2", "1-2", "5\u0301", "Inf", "NaN"},
		"000":          {"0", "00", "7", "07", "0007", "0000", "1,000", "-07"},
		"#":            {"", "-", "00", "05", ".", ".0", "0.0"},
		"#,##0.00;(#)": {"1", "1.0", "1.000", ".50", "0.5", "1.00-", "-1.00", "(1.00", "1.00)", "((1.00))", "()", "(1,23.00)", "1234.00", ",123.00", "1,,234.00", "1,234,.00", "12,34.00", "1,2345.00", "0,123.00", "001.00", "1.234,00", "1.00,0", "1.0.0", "1..00", "(1.00) ", "( 1.00)", "1 234.00", "1\u2019234.00", "(#)", "1,234", "1,234.", "\u0661.00"},
		"#,##,##0":     {"1234", "123,456", "1,234,567", "12,3,4567", "1,2,345", "01,234"},
		"#.##":         {"", ".", "0.", "0.5", ".50", "1.", "1.10", "0.00", ".00", ".005", "-", "-.", "00.5", "00", "0.0"},
		"0.##":         {".5", "1.", "1.0", "1.50", "1.234", "1,5", "01"},
		".00":          {"0", "0.50", "1", "1.5", "01.50", "..50", ".5", ".500", ".", "1."},
		"0.0%":         {"12.3", "12.3 %", "%12.3", "12.3%%", "12.3\u2030", "12%", "12.30%", "-%", "%"},
		"+0;-0":        {"5", "+-5", "-+5", "5+", "++5", "+", "-"},
		"a0b;c0d":      {"a5d", "c5b", "5", "a5", "5b", "ab5", "-a5b", "a5bb", "aa5b", "A5B", "a5b5", "5a5b", "a5bd", "ac5bd", "", "ab", "a b"},
		"@@#":          {"1", "1.", "1.00", "1.230", "1234", "0.001", "0.00100", "12.30", ".12", "00", "0.00", "1001", "01.2", "1,200"},
		"#,@@#":        {"1200", "12,345", "1,2,0", "1.200"},
		"0.25":         {"0.30", "0.5", "0.2", "0.250", ".25", "1", "1.0", "0.01", "0.24", "0.26", "00.25"},
		"7":            {"5", "1", "8", "07", "7.0", "70.0", "6", "71"},
		"0.00E+00":     {"1.23", "1.23E", "1.23E+", "1.23E05", "1.23E+5", "1.23E+005", "1.23E+-05", "1.23E-+05", "1.23E-00", "0.00E-00", "0.00E+01", "12.3E+04", "0.12E+04", ".12E+04", "1.2E+05", "1.234E+05", "1.23e+05", "1.23E +05", "1.23E+0 5", "1.23+05", "E+05", "1.23E+05E+05", "1,23E+05", "1.23*10^05", "1.23E+301", "1.23E-300"},
		"0E0":          {"5", "E5", "5E", "5E-0", "5E00", "5E05", "5E+5", "50E4", "0E1", "0E-1", "5E300", "5E-301", "5E1000", "5E-1000", "5E1001", "5E999999999", "5E4294967296", "5E18446744073709551616", "5E-9223372036854775808", "5E9223372036854775807", "5E" + rep("9", 99), "5E" + rep("0", 99), "5E1.0", "5.0E1", "5E1E1", "--5E1"},
		".##E0":        {".E0", ".5", "5E0", "0.5E0", ".05E1", ".50E1", ".5E", "..5E0", ".0E0", "0.E0"},
		"##0.##E0":     {"12.3E4", "1230E3", "1E1", "1E-1", "0.1E3", "1.234E3", "1.2E2", "0E3", "00E0", ".5E0"},
		"'#'0":         {"5", "##5", "#", "5#", "'#'5"},
		"*x#,##0":      {"7", "x7", "xxxxx7", "7xxxx", "xxx7x", "x7xxx", "xx1,234", "x1x,x234", "1x,234", "xxxxx", "yyyy7", "XXXX7", "xxx-x7", "-xxx7", "xxxx-7", "xx-7", "xxx,7", "xxx07", "x12,345"},
	} {
		none(t, p, s, texts...)
	}
}

// TestPadding: it is read at its place alone, and as much of it as lacks.
func TestPadding(t *testing.T) {
	s := symbol.Latin()
	for _, c := range []struct{ p, above, below string }{
		{"*xa#,##0b", "xxxa12b", "xx-a12b"}, {"a*x#,##0b", "axxx12b", "-axx12b"}, {"a#,##0*xb", "a12xxxb", "-a12xxb"}, {"a#,##0b*x", "a12bxxx", "-a12bxx"},
		{"*xa#,##0b;(0)", "xxxa12b", "xxx(12)"}, {"a*x#,##0b;(0)", "axxx12b", "(xxx12)"}, {"a#,##0*xb;(0)", "a12xxxb", "(12xxx)"}, {"a#,##0b*x;(0)", "a12bxxx", "(12)xxx"},
		{"*x#,##0", "xxx12", "xx-12"}, {"#,##0*x", "12xxx", "-12xx"}, {"*x0000", "0012", "-0012"}, {"*x0", "12", "-12"}, {"*x##0.00", "x12.00", "-12.00"},
		{"*x##0.0#E+0", "xxxx12E+0", "xxx-12E+0"}, {"*x@@@##", "x12.0", "-12.0"}, {"*''####0", "'''12", "''-12"}, {"*###0", "#12", "-12"}, {"**##0", "*12", "-12"}, {"*;##0;(0)", ";12", "(12)"},
		{"*\x00###0", "\x00\x0012", "\x00-12"}, {"*\ufffd###0", "\ufffd\ufffd12", "\ufffd-12"}, {"*\u0665###0", "\u0665\u066512", "\u0665-12"}, {"*\U0001f600###0\u20ac", "\U0001f600\U0001f60012\u20ac", "\U0001f600-12\u20ac"}, {"* ###0%", "1200%", "-1200%"}, {"* ####0%", " 1200%", "-1200%"},
	} {
		want(t, c.p, s, c.above, of("12", 0))
		want(t, c.p, s, c.below, minusOf("12", 0))
		pad := string(compiled(t, c.p).Pad)
		for _, text := range []string{c.above, c.below} {
			none(t, c.p, s, text+pad, pad+text)
			bare := strings.ReplaceAll(text, pad, "")
			if text != bare {
				none(t, c.p, s, bare, strings.Replace(text, pad, "", 1), strings.Replace(text, pad, "~", 1))
			}
			// As much of it elsewhere is nothing.
			fill := rep(pad, strings.Count(text, pad))
			for i := range bare {
				if moved := bare[:i] + fill + bare[i:]; moved != text {
					none(t, c.p, s, moved)
				}
			}
		}
	}
	// About a number that begins with its point, too.
	want(t, "a*x##.00", s, "axx.50", of("5", -1))
	want(t, "*xa##.00", s, "x-a.50", minusOf("5", -1))
	want(t, "##.00*xa", s, ".50xxa", of("5", -1))
	none(t, "a*x##.00", s, "ax.x50", "xxa.50", "a.xx50", "a.50xx")
}

// TestPadWidths: of each width, at each place, by padding of 1 to 4 bytes.
func TestPadWidths(t *testing.T) {
	for _, pad := range []rune{'x', 0, ' ', '\'', '\u00a0', '\u20ac', '\ufffd', '\U0001f600', '\U0010ffff'} {
		for at := api.BeforePrefix; at <= api.AfterSuffix; at++ {
			for _, width := range []int{11, 13, 14, 300} {
				p := compiled(t, "ab#,##0.0cd;(0)")
				p.PadAt, p.Pad, p.Width = at, pad, width
				for _, s := range []api.Symbols{symbol.Latin(), arabic(), plainly(0x1d7ce)} {
					for _, d := range []api.Dec{of("123456", -1), minusOf("123456", -1), of("0", 0), minusOf("5", -1)} {
						text := back(t, p, s, api.Exact, d)
						if n := utf8.RuneCountInString(text); n < width {
							t.Errorf("%q has %d characters, want %d", text, n, width)
						}
						for _, other := range []string{text + string(pad), string(pad) + text, strings.Replace(text, string(pad), "", 1)} {
							if got, ok := hold(t, p, s, other); ok && other != text {
								t.Errorf("Parse(%q, %+q, %q) = %v", print.Print(p), s, other, got)
							}
						}
					}
				}
			}
		}
	}
}

// TestNested: symbols that have each other in them are held against what stands there as a whole.
func TestNested(t *testing.T) {
	s := nested()
	for _, c := range []struct {
		p, text string
		wanted  api.Dec
	}{
		{"#,##0.0;(0)", "1..234.5", of("12345", -1)},
		{"#,##0.0;(0)", "(1..234..567.5)", minusOf("12345675", -1)},
		{"0.0E0;(0)", "1.5.-.7", of("15", 6)},
		{"0.0E0;(0)", "1.5.-.-.7", of("15", -8)},
		{"0.0E+0;(0)", "1.5.-.-7", of("15", 6)},
		{"0.0E+0;(0)", "(1.5.-.-.7)", minusOf("15", -8)},
		{".0E0;(0)", ".5.-.7", of("5", 6)},
		{"+0;+0-", "-5", of("5", 0)},
		{"+0;+0-", "-5-.", minusOf("5", 0)},
		{"+.0;+0-", "-.5", of("5", -1)},
		{"+.0;+0-", "-.5-.", minusOf("5", -1)},
		{"0%;0+", "500.-", of("5", 0)},
		{"0\u2030;0-", "5...", of("5", -3)},
	} {
		want(t, c.p, s, c.text, c.wanted)
	}
	none(t, "#,##0.0;(0)", s, "1..234..5", "1.234.5", "1...234.5", "1234.5", "1..234", "(1..234.5", "1.234..5")
	none(t, "0.0E0;(0)", s, "1.5.7", "1.5-7", "1.5-.7", "1.5.-7", "1.5.-.-7", "1..5.-.7", "1.-.7", "1.5..-.7")
	none(t, "+.0;+0-", s, ".5", "-..5", "-5", "-.5.", "-.5-")
	for _, text := range []string{"*x#,##0.0;(0)", "a#,##0*xb;(0)", "\u00a4#,##0.00;(\u00a4#)", "##0.##E+0;(0)", ".0##E00%;0%+"} {
		for i, d := range samples() {
			back(t, compiled(t, text), s, ways[i%7], d)
		}
	}
}

// TestAlike: symbols may be alike, but for those that Clear holds apart.
func TestAlike(t *testing.T) {
	s := plainly('0')
	s.E = s.Decimal
	want(t, "0.0E0", s, "1D5D7", of("15", 6))
	want(t, ".0E0", s, "D5D7", of("5", 6))
	want(t, "0.#E0", s, "5D7", of("5", 7))
	want(t, "0.#E0", s, "5DM7", of("5", -7))
	want(t, "#.#E0", s, "MD5D7", minusOf("5", 6))
	none(t, "0.#E0", s, "5", "D5", "5D5D", "5D0D7", "D5D7")
	none(t, ".0E0", s, "D7", "5D7", "1D5D7")
	s = api.Symbols{Zero: '0', Decimal: "a", Group: "b", Minus: "b", Plus: "a", Percent: "b", Permille: "b", Currency: "b", E: "b"}
	want(t, "0.0E+0", s, "b1a5ba7", minusOf("15", 6))
	want(t, "0.0E+0", s, "b1a5bb7", minusOf("15", -8))
	want(t, "#,##0.0%", s, "b1b234a5b", minusOf("12345", -3))
	none(t, "#,##0.0%", s, "b1a234a5b", "b1b234b5b", "1b234b", "bb1b234a5b")
}

// TestSystems: each system's digits are read, and no other's.
func TestSystems(t *testing.T) {
	for _, zero := range zeros {
		s := plainly(zero)
		for _, text := range []string{"#,##0.0", "*x#,##0.0##", "Y0.0E+00", "@@@##%", "#,##,#25.0"} {
			p := compiled(t, text)
			for _, d := range []api.Dec{of("1234567890", -1), minusOf("9025", 1), of("0", 0), minusOf("0", 0), of("13579", -3), of("2468", -4)} {
				written := back(t, p, s, api.HalfUp, d)
				for _, other := range zeros {
					if other-zero < 10 && zero-other < 10 {
						continue
					}
					for _, text := range []string{exchanged(written, zero, other), written + string(other+9), string(other) + written} {
						if got, ok := hold(t, p, s, text); ok {
							t.Errorf("zero %x: %q is %v", zero, text, got)
						}
					}
				}
			}
		}
		for n := rune(-2); n < 12; n++ {
			r := zero + n
			if !utf8.ValidRune(r) {
				continue
			}
			text := string(r) + string(zero+1)
			got, ok := hold(t, compiled(t, "00"), s, text)
			if ok != (n >= 0 && n < 10) || ok && got != of(strings.TrimLeft(string('0'+n)+"1", "0"), 0) {
				t.Errorf("zero %x: %+q is %v, %v", zero, text, got, ok)
			}
		}
	}
}

// exchanged answers the text with another system's digits.
func exchanged(text string, zero, other rune) string {
	return strings.Map(func(r rune) rune {
		if r >= zero && r <= zero+9 {
			return other + r - zero
		}
		return r
	}, text)
}

// TestEnds: the greatest decimals, the finest ones, and as much of everything as there may be.
func TestEnds(t *testing.T) {
	s := symbol.Latin()
	want(t, "0", s, nines, of(nines, 0))
	none(t, "0", s, nines+"0", "1"+rep("0", 300), "0"+nines)
	want(t, "#,##0", s, "-"+rep("999,", 99)+"999", minusOf(nines, 0))
	none(t, "#,##0", s, "1"+rep(",000", 100), "9,"+rep("999,", 99)+"999")
	want(t, "0\u2030", s, nines+"000\u2030", of(nines, 0))
	want(t, "0\u2030", s, nines+"001\u2030", of(nines+"001", -3))
	none(t, "0\u2030", s, "1"+rep("0", 303)+"\u2030")
	want(t, "0%", s, nines+"99%", of(nines+"99", -2))
	none(t, "0%", s, nines+"000%", "1"+rep("0", 302)+"%")
	want(t, "@", s, "0."+rep("0", 299)+"1", of("1", -300))
	none(t, "@", s, "0."+rep("0", 300)+"1")
	want(t, rep("@", 40), s, "0."+rep("0", 299)+"1"+rep("0", 39), of("1", -300))
	none(t, rep("@", 40), s, "0."+rep("0", 299)+"1"+rep("0", 38), "0."+rep("0", 299)+"1"+rep("0", 38)+"1", "0."+rep("0", 299)+"1"+rep("0", 40))
	want(t, "@%", s, "0."+rep("0", 297)+"1%", of("1", -300))
	none(t, "@%", s, "0."+rep("0", 298)+"1%")
	want(t, "0E0", s, "9E299", of("9", 299))
	want(t, "0E0", s, "-9E-300", minusOf("9", -300))
	none(t, "0E0", s, "9E300", "9E-301")
	want(t, "0E0\u2030", s, "9E302\u2030", of("9", 299))
	want(t, "0E0\u2030", s, "9E-297\u2030", of("9", -300))
	none(t, "0E0\u2030", s, "9E303\u2030", "9E-298\u2030")
	long := rep("0", 40) + "." + rep("0", 40) + "E000000000"
	want(t, long, s, "1"+rep("0", 39)+"."+rep("0", 40)+"E-000000339", of("1", -300))
	want(t, long, s, "-"+rep("9", 40)+"."+rep("9", 40)+"E000000260", minusOf(rep("9", 80), 220))
	none(t, long, s, rep("9", 40)+"."+rep("9", 40)+"E000000261", "1"+rep("0", 39)+"."+rep("0", 40)+"E-000000340")
	want(t, rep("0", 40)+"."+rep("0", 40), s, rep("0", 40)+"."+rep("0", 39)+"1", of("1", -40))
	want(t, rep("0", 40)+"."+rep("0", 40), s, nines+"."+rep("9", 40), of(nines+rep("9", 40), -40))
	want(t, "0."+rep("#", 40)+"\u2030", s, nines+"999."+rep("9", 40)+"\u2030", of(nines+rep("9", 43), -43))
	want(t, "#,"+rep("0", 40), s, "1"+rep("0", 19)+rep(","+rep("0", 40), 7), of("1", 299))
	wide := plainly(0x1d7ce)
	wide.Group, wide.Currency, wide.Minus = rep("\u20ac", 5), rep("\u00e9", 8), rep("m", 16)
	three := in(0x1d7ce, "999")
	want(t, rep("\u00a4", 40)+"#,##0"+rep("-", 40), wide, rep("m", 16)+rep("\u00e9", 320)+rep(three+wide.Group, 99)+three+rep("m", 640), minusOf(nines, 0))
}

// TestLong: texts that are far longer than any that is written.
func TestLong(t *testing.T) {
	s := symbol.Latin()
	long := func(p, part string, n int) {
		many := rep(part, n)
		none(t, p, s, many, "-"+many+"1", "5"+many, "1.0E+"+many, "1.0E-"+many+"1", "0."+many, "("+many+")", many+"%")
	}
	for _, part := range []string{"0", "9", ".", ",", "-", "E", "x", "\u20ac", "1,", "5E", "\u0660"} {
		for _, p := range []string{"0", "#,##0.00;(0)", "0.0#E+0", "@@#", "*x###0", "#.#%", "0.25"} {
			for _, n := range []int{400, 999, 1000, 1001, 1002, 4001} {
				long(p, part, n)
			}
		}
	}
	long("0.0#E+0", "7", 1<<18)
	long("*x###0", "x", 1<<18)
}

// badPatterns are such as no text tells.
func badPatterns() []api.Pattern {
	minus := []api.Item{{Kind: api.Minus}}
	list := []api.Pattern{{}, {MinInt: 1}, {MinInt: 1, NegPrefix: minus, NegSuffix: minus}, {Sci: true}}
	for _, change := range []func(p *api.Pattern){
		func(p *api.Pattern) { p.MinInt = 41 }, func(p *api.Pattern) { p.MinInt = math.MinInt }, func(p *api.Pattern) { p.MaxInt = 1 }, func(p *api.Pattern) { p.MinFrac = 1 }, func(p *api.Pattern) { p.MaxFrac = math.MaxInt }, func(p *api.Pattern) { p.MaxSig = 1 },
		func(p *api.Pattern) { p.Primary = 3 }, func(p *api.Pattern) { p.Inc = "05" }, func(p *api.Pattern) { p.Sci = true }, func(p *api.Pattern) { p.MinExp = 1 }, func(p *api.Pattern) { p.PlusExp = true },
		func(p *api.Pattern) { p.Pad = 'x' }, func(p *api.Pattern) { p.Width = 1 }, func(p *api.Pattern) { p.PadAt = 1 }, func(p *api.Pattern) { p.PadAt, p.Pad, p.Width = 5, 'x', 5 }, func(p *api.Pattern) { p.PadAt, p.Pad, p.Width = 1, 'x', math.MaxInt }, func(p *api.Pattern) { p.PadAt, p.Pad, p.Width = 1, 0xd800, 5 },
		func(p *api.Pattern) { p.Prefix = minus }, func(p *api.Pattern) { p.HasNeg, p.NegPrefix = true, []api.Item{{Kind: 7}} }, func(p *api.Pattern) { p.HasNeg, p.NegPrefix = true, []api.Item{{Kind: 2, R: 'a'}} }, func(p *api.Pattern) { p.HasNeg, p.NegPrefix = true, slices.Repeat(minus, 41) },
	} {
		p := api.Pattern{MinInt: 1, NegPrefix: minus}
		change(&p)
		list = append(list, p)
	}
	return list
}

// badSymbols are such as may not be.
func badSymbols() []api.Symbols {
	list := []api.Symbols{{}}
	for _, zero := range []rune{-1, math.MinInt32, math.MaxInt32, 0xd7f7, 0xd800, 0xdfff, 0x10fff7, 0x110000} {
		list = append(list, plainly(zero))
	}
	for i := range 8 {
		for _, text := range []string{"", rep("a", 17), "\xff", "a\xe2\x82"} {
			s := plainly('0')
			*[]*string{&s.Decimal, &s.Group, &s.Minus, &s.Plus, &s.Percent, &s.Permille, &s.Currency, &s.E}[i] = text
			list = append(list, s)
		}
	}
	return list
}

// unclear are symbols by which hardly any pattern is clear.
func unclear() []api.Symbols {
	var list []api.Symbols
	for _, change := range []func(s *api.Symbols){
		func(s *api.Symbols) { s.Group = s.Decimal }, func(s *api.Symbols) { s.Minus = s.Plus }, func(s *api.Symbols) { s.E = "1" }, func(s *api.Symbols) { s.Decimal = "a5" }, func(s *api.Symbols) { s.Minus = s.Decimal }, func(s *api.Symbols) { s.Group = "0" }, func(s *api.Symbols) { s.Zero = '+' },
	} {
		s := symbol.Latin()
		change(&s)
		list = append(list, s)
	}
	return list
}

// TestErrors: each error that does not hang on the text, and which of several is told, whatever the text is.
func TestErrors(t *testing.T) {
	latin := symbol.Latin()
	holdError := func(p api.Pattern, s api.Symbols, want api.Errno) {
		t.Helper()
		for _, text := range []string{"5", "-5", "", "x", "\xff", "5\xff", "a\xe2\x82"} {
			if d, fault := Parse(p, s, text); d != (api.Dec{}) || fault != (api.Fault{E: want}) {
				t.Errorf("Parse(%+v, %+q, %q) = %v, %v, want %d", p, s, text, d, fault, want)
			}
		}
	}
	for _, p := range badPatterns() {
		for _, s := range slices.Concat([]api.Symbols{latin}, badSymbols(), unclear()) {
			holdError(p, s, api.ErrArg)
		}
	}
	for _, s := range badSymbols() {
		holdError(compiled(t, "0"), s, api.ErrSymbol)
		holdError(compiled(t, "0;0"), s, api.ErrSymbol)
	}
	for _, s := range unclear() {
		holdError(compiled(t, "0"), s, api.ErrClear)
		holdError(compiled(t, "#,##0.0"), s, api.ErrClear)
	}
	for _, p := range []string{"0;0", "'5'0", "*50", "x*x0", "'.'0", "0;a'.'0", "a0b;a#,##0.0b"} {
		holdError(compiled(t, p), latin, api.ErrClear)
	}
}

// TestText: what is not right is told with the place of its first fault, whatever else it is.
func TestText(t *testing.T) {
	for _, bad := range []string{"\xff", "\x80", "\xc0\x80", "\xc3", "\xe2\x82", "\xed\xa0\x80", "\xf0\x9f\x98", "\xf4\x90\x80\x80", "\xf8\x88\x80\x80\x80", "\xe2\x82\xe2\x82\xac", "\xff\xff"} {
		for _, p := range []string{"0", "#,##0.00;(0)", "*x##0", "*\ufffd##0", "\ufffd0", "0E0", "@@%"} {
			for _, s := range []api.Symbols{symbol.Latin(), arabic(), plainly('5')} {
				for _, ahead := range []string{"", "5", "-5", "\u0665", "\ufffd", "xx5", "\u20ac", "no number", rep("a", 1<<10), "\U0001f600\x00"} {
					for _, behind := range []string{"", "5", "\ufffd", "0%", "\xff", "\xe2"} {
						text := ahead + bad + behind
						if d, fault := Parse(compiled(t, p), s, text); d != (api.Dec{}) || fault != (api.Fault{E: api.ErrText, At: len(ahead)}) {
							t.Errorf("Parse(%q, %+q, %q) = %v, %v, want ErrText at %d", p, s, text, d, fault, len(ahead))
						}
					}
				}
			}
		}
	}
	// The code point fffd itself is no fault, be it a Lit, padding, or a digit.
	want(t, "\ufffd0;0\ufffd", symbol.Latin(), "\ufffd5", of("5", 0))
	want(t, "\ufffd0;0\ufffd", symbol.Latin(), "5\ufffd", minusOf("5", 0))
	want(t, "*\ufffd##0", symbol.Latin(), "\ufffd\ufffd5", of("5", 0))
	want(t, "0", plainly(0xfff4), "\ufffd", of("9", 0))
	none(t, "0", symbol.Latin(), "\ufffd", "5\ufffd")
}

// samples are decimals of all sorts, with both signs.
func samples() []api.Dec {
	var list []api.Dec
	for _, digits := range []string{"0", "000", "1", "5", "7", "10", "25", "049", "995", "9995", "12345", "99999", "1500", "4999999999", "123456789012345678901234567890"} {
		for _, exp := range []int{-31, -12, -6, -5, -4, -3, -2, -1, 0, 1, 2, 3, 4, 7} {
			list = append(list, of(digits, exp), minusOf(digits, exp))
		}
	}
	return list
}

// rows calls do with all rows of up to n parts.
func rows(parts []string, n int, do func(string)) {
	var extend func(s string, left int)
	extend = func(s string, left int) {
		do(s)
		for _, part := range parts {
			if left > 0 {
				extend(s+part, left-1)
			}
		}
	}
	extend("", n)
}

// written are the texts of all decimals of up to n such digits, at all places from low to high, and what each is.
func written(p api.Pattern, s api.Symbols, digits []string, n, low, high int) map[string]api.Dec {
	texts := map[string]api.Dec{}
	rows(digits, n, func(row string) {
		for exp := low; exp <= high; exp++ {
			for _, d := range []api.Dec{of(row, exp), minusOf(row, exp)} {
				if text, e := format.Format(p, s, api.Exact, d); e == api.OK {
					texts[text] = dec.Norm(d)
				}
			}
		}
	})
	return texts
}

// TestEveryText: of all short texts of a few parts, just those are read that are written.
func TestEveryText(t *testing.T) {
	latin, same, alike := symbol.Latin(), plainly('0'), plainly('0')
	same.E = same.Decimal
	alike.Group, alike.Minus, alike.E = "E", "E", "E"
	for _, c := range []struct {
		p     string
		s     api.Symbols
		parts string
		n     int
	}{
		{"0", latin, "05-+.,", 5},
		{"00;0-", latin, "05-", 6},
		{"#", latin, "01-", 6},
		{"#,##0.0#;(0)", latin, "01,.()", 5},
		{"#,##,0", latin, "01,-", 6},
		{"0,0.0", latin, "01,.-", 5},
		{"#.##", latin, "01.-", 6},
		{".0#", latin, "01.-", 6},
		{"#,@@", latin, "01,.-", 5},
		{"@#", latin, "01.-", 6},
		{"0.25", latin, "0257.-", 5},
		{"#5;+#", latin, "015+-", 5},
		{"0.#%", latin, "01.%-", 5},
		{"0.#\u2030;+0", latin, "01.\u2030+", 5},
		{"*x##0", latin, "x01-", 6},
		{"a*x##0;b0", latin, "xab01", 5},
		{"##0*x-;0", latin, "x01-", 6},
		{"a0;ab0", latin, "ab01", 5},
		{"-0+;+0-", latin, "01+-", 6},
		{"0E0", latin, "01E-+", 5},
		{"0.0E+0", latin, "01.E+", 6},
		{".#E0", latin, "01.E-", 6},
		{"##0.#E0", latin, "13.E-", 5},
		{"*x##E0", latin, "x01E-", 5},
		{"#,##0.0;(0)", nested(), "01.", 8},
		{".0E0;(0)", nested(), "1.-", 8},
		{"+.0;+0-", nested(), "01.-", 6},
		{"#.#E0", same, "01DM", 6},
		{"0.0E+0", same, "1DMP", 7},
		{"#,0.0", alike, "01DE", 6},
		{"0.#E0", alike, "01DE", 6},
	} {
		p, parts := compiled(t, c.p), strings.Split(c.parts, "")
		digits := slices.DeleteFunc(slices.Clone(parts), func(part string) bool { return !strings.Contains("0123456789", part) })
		most, low, high := c.n, -c.n-3, c.n
		if p.Sci {
			most, low, high = 2, -302, 302
		}
		texts, read := written(p, c.s, digits, most, low, high), 0
		rows(parts, c.n, func(text string) {
			got, ok := hold(t, p, c.s, text)
			if wanted, is := texts[text]; ok != is || got != wanted {
				t.Errorf("Parse(%q, %+q, %q) = %v, %v, want %v, %v", c.p, c.s, text, got, ok, wanted, is)
			}
			if ok {
				read++
			}
		})
		if read < 4 {
			t.Errorf("%q, %+q: only %d texts are read", c.p, c.s, read)
		}
	}
}

// TestThereAndBack: what is written by any way is read as what is rounded.
func TestThereAndBack(t *testing.T) {
	for i, text := range sorts {
		p := compiled(t, text)
		s := []api.Symbols{symbol.Latin(), arabic(), plainly(0x1d7ce)}[i%3]
		seen := map[string]bool{}
		for j, d := range samples() {
			seen[back(t, p, s, ways[(i+j/2)%8], d)] = true
			if j%29 == 0 {
				for _, m := range ways {
					seen[back(t, p, s, m, d)] = true
				}
			}
		}
		if len(seen) < 20 {
			t.Errorf("%q writes only %d texts", text, len(seen))
		}
	}
}

// near calls do with texts that are like one: with a code point less, twice, or exchanged with the next one, or with another part there, or instead.
func near(text string, parts []string, do func(string)) {
	list := []rune(text)
	for i := range len(list) + 1 {
		ahead, behind := string(list[:i]), string(list[i:])
		for _, part := range parts {
			do(ahead + part + behind)
		}
		if i == len(list) {
			break
		}
		one, rest := string(list[i]), string(list[i+1:])
		do(ahead + rest)
		do(ahead + one + one + rest)
		for _, part := range parts {
			do(ahead + part + rest)
		}
		if i+1 < len(list) {
			do(ahead + string(list[i+1]) + one + string(list[i+2:]))
		}
	}
}

// TestNothingElse: what is near a text that is written is nothing, or another value's text.
func TestNothingElse(t *testing.T) {
	list := samples()
	for i, text := range sorts {
		p := compiled(t, text)
		for k, s := range []api.Symbols{symbol.Latin(), arabic()} {
			parts := []string{string(s.Zero), string(s.Zero + 5), s.Decimal, s.Group, s.Minus, s.Plus, s.E, s.Percent, "x", "b", "("}
			for j := range 3 {
				d := list[(i*31+j*101+k*53)%len(list)]
				whole := back(t, p, s, api.HalfEven, d)
				rounded, _ := shape.Round(p, api.HalfEven, d)
				near(whole, parts, func(other string) {
					if got, ok := hold(t, p, s, other); ok && (got == rounded) != (other == whole) {
						t.Errorf("%q and %q by %q are both %v", whole, other, text, got)
					}
				})
			}
		}
	}
}

// TestHalves: without a second half all is read as with the first one behind a minus, and all alike by what is printed.
func TestHalves(t *testing.T) {
	s := arabic()
	for _, text := range []string{"0", "#,##0.00", "a0b", "0.0%", "\u00a4@@#", "-0+", "##0.##E+0", "'-'0", "0.25\u2030"} {
		alone, both := compiled(t, text), compiled(t, text+";-"+text)
		printed := compiled(t, print.Print(alone))
		for _, d := range samples()[:200] {
			whole := back(t, alone, s, api.HalfEven, d)
			for _, one := range []string{whole, whole + "0", s.Minus + whole, strings.Replace(whole, s.Minus, "", 1)} {
				wanted, wantFault := Parse(alone, s, one)
				for _, p := range []api.Pattern{both, printed} {
					if got, fault := Parse(p, s, one); got != wanted || fault.E != wantFault.E {
						t.Errorf("Parse(%q, %q) = %v, %v, want %v, %v", print.Print(p), one, got, fault, wanted, wantFault)
					}
				}
			}
		}
	}
}

// TestRandom: long decimals by patterns with much of everything, and rows of what stands in such texts.
func TestRandom(t *testing.T) {
	random := rand.New(rand.NewSource(23))
	pick := func(list ...string) string { return list[random.Intn(len(list))] }
	some := func(s string, most int) string { return rep(s, random.Intn(most+1)) }
	affix := func() string {
		out := ""
		for range random.Intn(4) {
			out += pick("a", "b", "-", "+", "\u00a4", "'.'", "\u20ac", "'E'", " ", "\x00", "\ufffd", "''")
		}
		return out
	}
	done := 0
	for range 3500 {
		number := some("#", 20) + some("0", 12)
		switch random.Intn(5) {
		case 0:
			number = some("#", 3) + "@" + some("@", 12) + some("#", 12)
		case 1:
			number += "0." + some("0", 20) + some("#", 20)
		case 2:
			number = some("#", 28) + some("0", 12) + ".0#E" + pick("", "+") + some("0", 8) + "0"
		case 3:
			number = some("#", 9) + pick("", some("#", 4)+"#,") + "#" + some("#", 5) + "," + some("#", 5) + "0" + some("0", 3) + "." + some("0", 3) + some("#", 3)
		case 4:
			number += some("05", 9) + "." + some("0", 3) + some("7", 3) + "5"
		}
		text := []string{"", affix(), "", number, "", affix() + pick("", "", "%", "\u2030"), ""}
		if random.Intn(2) == 0 {
			text[2*random.Intn(4)] = pick("*x", "* ", "*_", "*\u2007", "*7", "*\U0001f600")
		}
		whole := strings.Join(text, "")
		if random.Intn(2) == 0 {
			whole += ";" + affix() + "0" + affix()
		}
		p, fault := pattern.Compile(whole)
		s := symbol.Latin()
		s.Zero = zeros[random.Intn(len(zeros))]
		for _, one := range []*string{&s.Decimal, &s.Group, &s.Minus, &s.Plus, &s.Percent, &s.Permille, &s.Currency, &s.E} {
			if random.Intn(3) == 0 {
				*one = pick("a", ".", ",", "-", "''", "\u066b", "\u20ac", "ab", "\u2212", "-\u200e", "-.", ".,", "x^", "\ufffd", "\U0001f600\U0001f600")
			}
		}
		if fault.E != api.OK || !clear.Clear(p, s) {
			continue
		}
		done++
		for range 3 {
			digits := some("0", 2) + string(rune('0'+random.Intn(10))) + some("9", []int{2, 30, 300}[random.Intn(3)]) + string(rune('0'+random.Intn(10))) + some("0", 9)
			back(t, p, s, ways[random.Intn(8)], api.Dec{Neg: random.Intn(2) == 0, Digits: digits, Exp: random.Intn(60) - 30 - len(digits)/2})
			row := pick("", symbol.Text(s, p.Prefix), symbol.Text(s, p.NegPrefix))
			for range random.Intn(9) {
				row += pick(string(s.Zero), string(s.Zero+5), string(s.Zero+9), s.Decimal, s.Group, s.Minus, s.E, s.E+s.Plus, string(p.Pad))
			}
			hold(t, p, s, row+pick("", symbol.Text(s, p.Suffix), symbol.Text(s, p.NegSuffix)))
		}
	}
	if done < 1500 {
		t.Errorf("only %d are clear", done)
	}
}

// share tells whether two texts have a byte of memory in common.
func share(a, b string) bool {
	if a == "" || b == "" {
		return false
	}
	from, at := uintptr(unsafe.Pointer(unsafe.StringData(a))), uintptr(unsafe.Pointer(unsafe.StringData(b)))
	return from < at+uintptr(len(b)) && at < from+uintptr(len(a))
}

// TestMemory: what is handed in stays, spare room too, and what is answered shares nothing with it, or with another answer.
func TestMemory(t *testing.T) {
	for _, c := range []struct{ p, text string }{
		{"0", "5"}, {"0", "M12000"}, {"#.##", "1234567D89"}, {"a0b;c0d", "c123d"}, {"*x\u00a4#,##0.0%;-0+", "M12G345D6P"}, {"0E+00", "7EP05"}, {"@@#", "12300"}, {"0.25", "0D75"},
	} {
		p, before := compiled(t, c.p), compiled(t, c.p)
		fields := func(p *api.Pattern) []*[]api.Item {
			return []*[]api.Item{&p.Prefix, &p.Suffix, &p.NegPrefix, &p.NegSuffix}
		}
		for _, items := range fields(&p) {
			room := append(slices.Clone(*items), api.Item{Kind: api.Percent}, api.Item{Kind: 99})
			*items = room[:len(room)-2]
		}
		s, text := plainly('0'), strings.Clone(c.text)
		var answers []string
		for range 3 {
			d, fault := Parse(p, s, text)
			same, sameFault := Parse(before, s, text)
			if d != same || fault != sameFault || fault != (api.Fault{}) {
				t.Errorf("with spare room Parse(%q, %q) = %v, %v, want %v, %v", c.p, text, d, fault, same, sameFault)
			}
			answers = append(answers, d.Digits, same.Digits)
		}
		for i, a := range answers {
			for _, b := range append(slices.Clone(answers[:i]), text, p.Inc, before.Inc) {
				if share(a, b) {
					t.Errorf("%q of %q shares memory with %q", a, text, b)
				}
			}
		}
		for i, items := range fields(&p) {
			if room := (*items)[:len(*items)+2]; !slices.Equal(room[len(*items):], []api.Item{{Kind: api.Percent}, {Kind: 99}}) || !slices.Equal(*items, *fields(&before)[i]) {
				t.Errorf("%q: what is handed in is changed: %v", c.p, room)
			}
			*items = *fields(&before)[i]
		}
		if !reflect.DeepEqual(p, before) || s != plainly('0') || text != c.text {
			t.Errorf("%q: what is handed in is changed", c.p)
		}
	}
}

// TestAgain: no call has to do with those ahead of it.
func TestAgain(t *testing.T) {
	for range 3 {
		for i, text := range sorts {
			p, s := compiled(t, text), symbol.Latin()
			whole := back(t, p, s, api.HalfEven, of("12345", -2))
			first, fault := Parse(p, s, whole)
			Parse(p, api.Symbols{}, whole)
			Parse(p, s, whole+"\xff")
			Parse(p, s, "-"+whole)
			Parse(compiled(t, sorts[len(sorts)-1-i]), arabic(), whole)
			if again, sameFault := Parse(p, s, whole); again != first || sameFault != fault {
				t.Errorf("Parse(%q, %q) = %v, %v, then %v, %v", text, whole, first, fault, again, sameFault)
			}
		}
	}
}

// TestAny: every call answers.
func TestAny(t *testing.T) {
	numbers := []int{math.MinInt, math.MinInt32, -1, 0, 1, 4, 5, 41, math.MaxInt32, math.MaxInt}
	runes := []rune{math.MinInt32, -1, 0, '0', 0xd800, 0xfffd, 0x10ffff, 0x110000, math.MaxInt32}
	strange := []string{"", "a", "0", "12", "\xff", "\xe2\x82", "\u0661", rep("\u20ac", 1<<6)}
	for i := range 11 {
		for _, n := range numbers {
			for j, r := range runes {
				p := compiled(t, []string{"*x#,##0.0", "0.0E+00", "@@#", "0.25"}[j%4])
				*[]*int{&p.MinInt, &p.MaxInt, &p.MinFrac, &p.MaxFrac, &p.MinSig, &p.MaxSig, &p.Primary, &p.Secondary, &p.MinExp, &p.PadAt, &p.Width}[i] = n
				items := []api.Item{{Kind: n, R: r}, {Kind: 1, R: 'a'}}
				q := p
				q.Prefix, q.Suffix, q.NegPrefix, q.NegSuffix, q.Pad, q.Sci, q.Inc = items[:1], items, items[1:], nil, r, j%2 == 0, strange[j%8]
				for _, text := range strange {
					s := api.Symbols{Zero: r, Decimal: text, Group: text + "x", Minus: text, Plus: text, Percent: text, Permille: text, Currency: text, E: text}
					for _, one := range []api.Pattern{p, q} {
						for _, s := range []api.Symbols{s, symbol.Latin()} {
							d, fault := Parse(one, s, text)
							if again, sameFault := Parse(one, s, text); again != d || sameFault != fault {
								t.Errorf("Parse(%+v, %+q, %q) = %v, %v, then %v, %v", one, s, text, d, fault, again, sameFault)
							}
							if fault.At < 0 || fault.At > len(text) || fault.E != api.OK && d != (api.Dec{}) {
								t.Errorf("Parse(%+v, %+q, %q) = %v, %v", one, s, text, d, fault)
							}
						}
					}
				}
			}
		}
	}
	p := compiled(t, "0")
	p.Prefix = slices.Repeat([]api.Item{{Kind: 1, R: 'a'}}, 1<<18)
	if d, fault := Parse(p, symbol.Latin(), "1"); d != (api.Dec{}) || fault != (api.Fault{E: api.ErrArg}) {
		t.Errorf("Parse by a long prefix = %v, %v", d, fault)
	}
}
