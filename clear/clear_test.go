package clear

import (
	"fmt"
	"math"
	"math/rand"
	"reflect"
	"slices"
	"strings"
	"testing"
	"unsafe"

	"figurehead/api"
	"figurehead/pattern"
	"figurehead/print"
	"figurehead/symbol"
)

// zeros are systems: of Latin and others, at the ends of what is a code point, and those that have fffd, marks, or code point 0.
var zeros = []rune{'0', '1', 0x660, 0x966, 0xff10, 0x1d7ce, 0, ',', 0xd7f6, 0xe000, 0xfff4, 0xfffd, 0x10fff6}

// lit is an item Lit.
func lit(r rune) api.Item { return api.Item{Kind: 1, R: r} }

// lits are the items Lit of a text.
func lits(text string) []api.Item {
	var items []api.Item
	for _, r := range text {
		items = append(items, lit(r))
	}
	return items
}

// plainly answers symbols that share no character with each other, and have no digit of any system of zeros.
func plainly(zero rune) api.Symbols {
	return api.Symbols{Zero: zero, Decimal: "d", Group: "g", Minus: "m", Plus: "p", Percent: "c", Permille: "l", Currency: "y", E: "e"}
}

// field is one of s's texts.
type field struct {
	name string
	at   func(s *api.Symbols) *string
}

// always are the texts of symbols that may never have a digit, or padding.
var always = []field{
	{"Decimal", func(s *api.Symbols) *string { return &s.Decimal }},
	{"Group", func(s *api.Symbols) *string { return &s.Group }},
	{"Minus", func(s *api.Symbols) *string { return &s.Minus }},
	{"Plus", func(s *api.Symbols) *string { return &s.Plus }},
	{"E", func(s *api.Symbols) *string { return &s.E }},
}

// bySign are those that may not have one where there is an item of their kind.
var bySign = map[int]field{
	4: {"Percent", func(s *api.Symbols) *string { return &s.Percent }},
	5: {"Permille", func(s *api.Symbols) *string { return &s.Permille }},
	6: {"Currency", func(s *api.Symbols) *string { return &s.Currency }},
}

// affixes are p's four affixes.
func affixes(p *api.Pattern) map[string]*[]api.Item {
	return map[string]*[]api.Item{"Prefix": &p.Prefix, "Suffix": &p.Suffix, "NegPrefix": &p.NegPrefix, "NegSuffix": &p.NegSuffix}
}

// compiled is what Compile makes of the text, which has no fault.
func compiled(t *testing.T, text string) api.Pattern {
	t.Helper()
	p, fault := pattern.Compile(text)
	if fault.E != api.OK {
		t.Fatalf("Compile(%q) = %v", text, fault)
	}
	return p
}

// checked is p, which must be good.
func checked(t *testing.T, p api.Pattern) api.Pattern {
	t.Helper()
	if !print.Good(p) {
		t.Fatalf("%+v is not good", p)
	}
	return p
}

// written is what s makes of the items, one by one.
func written(s api.Symbols, items []api.Item) string {
	out := ""
	for _, one := range items {
		out += []string{"", string(one.R), s.Minus, s.Plus, s.Percent, s.Permille, s.Currency}[one.Kind]
	}
	return out
}

// has tells whether the code point r is one of the text's.
func has(text string, r rune) bool {
	return slices.Contains([]rune(text), r)
}

// reasons are the chapter's words that do not hold of p and s.
func reasons(p api.Pattern, s api.Symbols) []string {
	var out []string
	add := func(bad bool, reason string) {
		if bad {
			out = append(out, reason)
		}
	}
	texts := map[string]string{"Decimal": s.Decimal, "Group": s.Group, "Minus": s.Minus, "Plus": s.Plus, "E": s.E}
	for name, items := range affixes(&p) {
		texts[name] = written(s, *items)
	}
	for name, text := range texts {
		for n := range rune(10) {
			add(has(text, s.Zero+n), "a digit in "+name)
		}
		add(p.PadAt > 0 && has(text, p.Pad), "Pad in "+name)
	}
	add(p.PadAt > 0 && p.Pad >= s.Zero && p.Pad <= s.Zero+9, "Pad is a digit")
	add(texts["Prefix"] == texts["NegPrefix"] && texts["Suffix"] == texts["NegSuffix"], "the pairs are alike")
	for _, name := range []string{"Prefix", "NegPrefix"} {
		rest, cut := strings.CutSuffix(texts[name], s.Decimal)
		add(cut && rest+s.Decimal == texts[name], name+" ends with Decimal")
	}
	add(s.Group == s.Decimal, "Group is Decimal")
	add(s.Plus == s.Minus, "Plus is Minus")
	return out
}

// hold holds both calls against the chapter's words, and answers whether it is clear.
func hold(t *testing.T, p api.Pattern, s api.Symbols) bool {
	t.Helper()
	why := reasons(p, s)
	if got := Clear(p, s); got != (len(why) == 0) {
		t.Errorf("Clear(%+v, %+q) = %v, though %q", p, s, got, why)
	}
	holdPair(t, p, s)
	return len(why) == 0
}

// holdPair holds Pair against the chapter's words.
func holdPair(t *testing.T, p api.Pattern, s api.Symbols) {
	t.Helper()
	if a, b := Pair(p, s, false); a != written(s, p.Prefix) || b != written(s, p.Suffix) {
		t.Errorf("Pair(%+v, %+q, false) = %q, %q", p, s, a, b)
	}
	if a, b := Pair(p, s, true); a != written(s, p.NegPrefix) || b != written(s, p.NegSuffix) {
		t.Errorf("Pair(%+v, %+q, true) = %q, %q", p, s, a, b)
	}
}

// want holds Clear against what is wanted, and against the chapter's words: if it is not clear, for one reason alone.
func want(t *testing.T, what any, p api.Pattern, s api.Symbols, clear bool) {
	t.Helper()
	if !symbol.Good(s) || !print.Good(p) {
		t.Fatalf("%v: %+v and %+q are not good", what, p, s)
	}
	if got := hold(t, p, s); got != clear {
		t.Errorf("%v: want %v of %q and %+q", what, clear, print.Print(p), s)
	}
	if why := reasons(p, s); len(why) > 1 {
		t.Errorf("%v: not clear for more than one reason: %q", what, why)
	}
}

// TestExample: the chapter's example.
func TestExample(t *testing.T) {
	if !Clear(compiled(t, "0;(0)"), symbol.Latin()) {
		t.Error("0;(0) is not clear")
	}
	if Clear(compiled(t, "0;0"), symbol.Latin()) {
		t.Error("0;0 is clear")
	}
}

// TestPair: both pairs of patterns of all sorts.
func TestPair(t *testing.T) {
	other := api.Symbols{Zero: 0x660, Decimal: "\u066b", Group: "\u066c", Minus: "\u200f-", Plus: "\u200f+", Percent: "\u066a", Permille: "\u0609", Currency: "kr.", E: "\u0627\u0633"}
	for _, c := range []struct {
		text                               string
		s                                  api.Symbols
		prefix, suffix, negPrefix, negSufx string
	}{
		{"0", symbol.Latin(), "", "", "-", ""},
		{"0", other, "", "", "\u200f-", ""},
		{"a0b", symbol.Latin(), "a", "b", "-a", "b"},
		{"#,##0.00;(#)", symbol.Latin(), "", "", "(", ")"},
		{"(0);[0]", symbol.Latin(), "(", ")", "[", "]"},
		{"\u00a40%", symbol.Latin(), "\u00a4", "%", "-\u00a4", "%"},
		{"\u00a40%", other, "kr.", "\u066a", "\u200f-kr.", "\u066a"},
		{"\u00a40%;-\u00a40%", symbol.Latin(), "\u00a4", "%", "-\u00a4", "%"},
		{"+0\u2030;-0\u2030", symbol.Latin(), "+", "\u2030", "-", "\u2030"},
		{"+0\u2030;-0\u2030", other, "\u200f+", "\u0609", "\u200f-", "\u0609"},
		{"'-'0'+';'%'0'\u00a4'", other, "-", "+", "%", "\u00a4"},
		{"'#'0", symbol.Latin(), "#", "", "-#", ""},
		{"0-;0+-", symbol.Latin(), "", "-", "", "+-"},
		{"0;0", symbol.Latin(), "", "", "", ""},
		{"''0''", symbol.Latin(), "'", "'", "-'", "'"},
		{"*xa0b", symbol.Latin(), "a", "b", "-a", "b"},
		{"a*x0b", symbol.Latin(), "a", "b", "-a", "b"},
		{"a0*xb;c0d", symbol.Latin(), "a", "b", "c", "d"},
		{"\U0001f6000\u20ac", symbol.Latin(), "\U0001f600", "\u20ac", "-\U0001f600", "\u20ac"},
		{"a##0.##E0b", symbol.Latin(), "a", "b", "-a", "b"},
		{"a@@#b", symbol.Latin(), "a", "b", "-a", "b"},
	} {
		p := compiled(t, c.text)
		if a, b := Pair(p, c.s, false); a != c.prefix || b != c.suffix {
			t.Errorf("Pair of %q = %q, %q", c.text, a, b)
		}
		if a, b := Pair(p, c.s, true); a != c.negPrefix || b != c.negSufx {
			t.Errorf("Pair of %q below 0 = %q, %q", c.text, a, b)
		}
		hold(t, p, c.s)
	}
}

// TestPairLong: affixes of as many items as there may be, each of a symbol of as many bytes as there may be.
func TestPairLong(t *testing.T) {
	s := plainly('0')
	s.Currency = strings.Repeat("\u00e9", 8)
	p := checked(t, compiled(t, strings.Repeat("\u00a4", 40)+"0"+strings.Repeat("\u00a4", 40)+";"+strings.Repeat("\u00a4", 39)+"0"))
	long := strings.Repeat("\u00e9", 320)
	if a, b := Pair(p, s, false); a != long || b != long {
		t.Errorf("Pair = %q, %q", a, b)
	}
	want(t, "long", p, s, true)
	p.NegPrefix, p.NegSuffix = p.Prefix, p.Suffix
	want(t, "long and alike", p, s, false)
}

// TestTable: patterns by Latin's symbols.
func TestTable(t *testing.T) {
	for text, clear := range map[string]bool{
		"0": true, "#": true, ".0": true, "#,##0.00;(#)": true, "#,##,##0.###": true, "@@#": true, "0.25": true,
		"0%": true, "0\u2030": true, "\u00a40": true, "0E0": true, "##0.##E+00": true, "-0": true, "+0;-0": true, "0-": true,
		"0;0": false, "0;0x": true, "0;x0": true, "x0;0": true, "0x;0": true, "x0;0x": true, "x0;x0": false, "0x;0x": false, "x0y;x0y": false, "x0y;y0x": true,
		"xy0;x0y": true, "-0;'-'0": false, "'\u00a4'0;\u00a40": false, "+0%;'+%'0": true, "0%;0%": false, "+0;+0": false,
		"'0'0": false, "'1'0": false, "'9'0": false, "0'5'": false, "0'x5'": false, "0;'1'0": false, "0;0'1'": false, "0x'4'x;(0)": false, "0;(0x'6'x)": false,
		"\u06600": true, "0\u0661": true, "/0:": true,
		"'.'0": false, "a'.'0": false, "a'.'b0": true, "'.'a0": true, "0'.'": true, "0'.'a": true, "0;'.'0": false, "a0;b'.'0": false, "a0;0'.'": true, "'..'0": false,
		"','0": true, "a','0": true, "0','": true, "E0": true, "0;E0": true, "0'E'": true, "'#'0": true, "'@'0'*'": true,
		"*x0": true, "*x#,##0": true, "*#0": true, "*;0": true, "*%0": true, "*\u00a40": true, "**0": true, "*''0": true, "* 0;(0)": true, "*'#'0": true,
		"x*x0": false, "*xx0": false, "0*xx": false, "0x*x": false, "*x0;(0x)": false, "*x0;x0": false, "*x0;0x": false, "*x0;y0": true, "*xy0x": false, "*xy0y": true,
		"*00": false, "*10": false, "*90": false, "*/0": true, "*:0": true, "*\u06600": true,
		"*-0": false, "*-0;(0)": false, "*+0": false, "*,0": false, "*.0": false, "*E0": false, "*e0": true, "*%0%": false, "*\u00a40;\u00a40": false, "*\u20300": true,
	} {
		p, fault := pattern.Compile(text)
		if fault.E != api.OK {
			t.Errorf("Compile(%q) = %v", text, fault)
			continue
		}
		hold(t, p, symbol.Latin())
		if got := Clear(p, symbol.Latin()); got != clear {
			t.Errorf("Clear of %q = %v: %q", text, got, reasons(p, symbol.Latin()))
		}
	}
}

// around are texts with the code point at their beginning, between others, at their end, and alone.
func around(r rune) []string {
	return []string{string(r), "z" + string(r), string(r) + "z", "z" + string(r) + "z", "\u20ac" + string(r) + "\u00e9"}
}

// TestDigitSymbols: a digit of any system, anywhere in a symbol that may never have one; what is beside the system may be there.
func TestDigitSymbols(t *testing.T) {
	p := compiled(t, "k0n;(0)")
	for _, zero := range zeros {
		for _, one := range always {
			for n := rune(-2); n < 12; n++ {
				r := zero + n
				if r < 0 || r > 0x10ffff || r >= 0xd800 && r <= 0xdfff || r == 'd' || r == 'p' {
					continue
				}
				for _, text := range around(r) {
					s := plainly(zero)
					*one.at(&s) = text
					want(t, fmt.Sprintf("%s %q, zero %x", one.name, text, zero), p, s, n < 0 || n > 9)
				}
			}
		}
	}
}

// TestDigitAffixes: a digit in each of the four affixes, as a Lit.
func TestDigitAffixes(t *testing.T) {
	for _, zero := range zeros {
		for n := rune(-2); n < 12; n++ {
			r := zero + n
			if r < 0 || r > 0x10ffff || r >= 0xd800 && r <= 0xdfff {
				continue
			}
			for name := range affixes(&api.Pattern{}) {
				for _, text := range around(r) {
					p := compiled(t, "k0n;(0)")
					items := affixes(&p)[name]
					*items = append(*items, lits(text)...)
					want(t, fmt.Sprintf("%s %q, zero %x", name, text, zero), checked(t, p), plainly(zero), n < 0 || n > 9)
				}
			}
		}
	}
}

// TestOtherDigits: the digits of systems that are not Zero's are like any other characters.
func TestOtherDigits(t *testing.T) {
	s := plainly(0x660)
	s.Decimal, s.Group, s.Minus, s.Plus, s.E = "0", "1", "2", "3", "9"
	want(t, "Latin digits", compiled(t, "'4'0'5';'6'0'7'"), s, true)
	want(t, "Latin digits as padding", compiled(t, "*8'4'0'5';'6'0'7'"), s, true)
	s.Zero = '0'
	if Clear(compiled(t, "'4'0'5';'6'0'7'"), s) {
		t.Error("Latin digits are clear")
	}
}

// TestSignDigits: Percent, Permille and Currency may have a digit, or Pad, or end with Decimal, as long as no item writes them.
func TestSignDigits(t *testing.T) {
	for kind, one := range bySign {
		for text, ends := range map[string]bool{"7": false, "z7": false, "7z": false, "q": false, "zqz": false, "d": true, "zd": true} {
			s := plainly('0')
			*one.at(&s) = text
			want(t, one.name+" nowhere", compiled(t, "*qk0n;(0)"), s, true)
			for name := range affixes(&api.Pattern{}) {
				p := compiled(t, "*qk0n;(0)")
				items := affixes(&p)[name]
				*items = append(*items, api.Item{Kind: kind})
				p.Width = len(p.Prefix) + len(p.Suffix) + 1
				want(t, fmt.Sprintf("%s %q in %s", one.name, text, name), checked(t, p), s, ends && strings.HasSuffix(name, "Suffix"))
			}
		}
	}
}

// padding is k0n;(0), padded with r at the place.
func padding(t *testing.T, at int, r rune) api.Pattern {
	t.Helper()
	p := compiled(t, "k0n;(0)")
	p.PadAt, p.Pad, p.Width = at, r, 3
	return checked(t, p)
}

// pads are code points to pad with, one of each number of bytes, 0, and fffd, none of them elsewhere in symbols or affixes.
var pads = []rune{0, ' ', 'x', '*', '\'', '#', ';', '-', 'E', '\u00a0', '\u00e9', '\u2007', '\u20ac', '\ufffd', '\U0001f600', '\U0010ffff'}

// TestPadSymbols: Pad may stand in none of the texts, wherever there is padding, and in all of them, where there is none.
func TestPadSymbols(t *testing.T) {
	for _, pad := range pads {
		for at := 1; at <= 4; at++ {
			p := padding(t, at, pad)
			want(t, fmt.Sprintf("Pad %q", pad), p, plainly('0'), true)
			for _, one := range always {
				for _, text := range []string{string(pad), "z" + string(pad), string(pad) + "z", "z" + string(pad) + "z"} {
					s := plainly('0')
					*one.at(&s) = text
					want(t, fmt.Sprintf("Pad %q in %s", pad, one.name), p, s, false)
					want(t, fmt.Sprintf("no padding, %q in %s", pad, one.name), compiled(t, "k0n;(0)"), s, true)
				}
			}
		}
	}
}

// TestPadAffixes: Pad in each of the four affixes.
func TestPadAffixes(t *testing.T) {
	for _, pad := range pads {
		for at := 0; at <= 4; at++ {
			for name := range affixes(&api.Pattern{}) {
				for _, text := range []string{string(pad), "z" + string(pad) + "z"} {
					p := compiled(t, "k0n;(0)")
					items := affixes(&p)[name]
					*items = append(*items, lits(text)...)
					if at > 0 {
						p.PadAt, p.Pad, p.Width = at, pad, len(p.Prefix)+len(p.Suffix)+1
					}
					want(t, fmt.Sprintf("Pad %q in %s, at %d", pad, name, at), checked(t, p), plainly('0'), at == 0)
				}
			}
		}
	}
}

// TestPadNone: a pattern without padding has Pad 0, which is no padding with the code point 0.
func TestPadNone(t *testing.T) {
	s := plainly('0')
	s.Group = "\x00"
	want(t, "0 in Group", compiled(t, "0;(0)"), s, true)
	want(t, "0 in Group, padded with it", compiled(t, "*\x000;(0)"), s, false)
	want(t, "0 in Group, padded with another", compiled(t, "*x0;(0)"), s, true)
	want(t, "0 in a prefix", compiled(t, "0;\x000"), plainly('0'), true)
	want(t, "0 as Zero", compiled(t, "0;(0)"), plainly(0), true)
	want(t, "0 as Zero, and padding", compiled(t, "*\x000;(0)"), plainly(0), false)
}

// TestPadDigit: padding with a digit of any system is not clear, with what is beside it, or another system's, it is.
func TestPadDigit(t *testing.T) {
	for _, zero := range zeros {
		for n := rune(-2); n < 12; n++ {
			r := zero + n
			if r < 0 || r > 0x10ffff || r >= 0xd800 && r <= 0xdfff {
				continue
			}
			for at := 1; at <= 4; at++ {
				want(t, fmt.Sprintf("Pad %x, zero %x", r, zero), padding(t, at, r), plainly(zero), n < 0 || n > 9)
			}
		}
	}
	want(t, "Latin digit, other system", padding(t, 1, '0'), plainly(0x660), true)
	want(t, "other digit, Latin system", padding(t, 1, 0x660), plainly('0'), true)
}

// TestPadBytes: a character that has some bytes of the padding is none.
func TestPadBytes(t *testing.T) {
	s := plainly('0')
	s.Group, s.E = "\u20ad", "\u00ac"
	want(t, "last byte is another", padding(t, 1, '\u20ac'), s, true)
	want(t, "lowest bits are another's", padding(t, 1, '\u012d'), symbol.Latin(), true)
	want(t, "digit's lowest bits", padding(t, 1, '\u0130'), plainly('0'), true)
	want(t, "two make no third", padding(t, 1, 'A'), plainly('0'), true)
}

// TestAlike: pairs are alike, if both texts are: not items, and not both texts laid together.
func TestAlike(t *testing.T) {
	s := plainly('0')
	for text, clear := range map[string]bool{
		"0": true, "z0": true, "-0": true, "0;0": false, "0;#,##0.0": false,
		"a0;0": true, "0;a0": true, "0a;0": true, "0;0a": true, "a0;0a": true, "ab0;a0b": true, "ab0b;a0bb": true, "a0b;b0a": true,
		"a0;a0": false, "0a;0a": false, "ab0ba;ab0ba": false, "ab0;ba0": true, "a0b;a0c": true, "a0b;c0b": true,
		"-0;m0": false, "+0;p0": false, "0%;0c": false, "0\u2030;0l": false, "\u00a40;y0": false, "-+0%\u00a4;mp0cy": false, "--0;mm0": false, "-m0;m-0": false,
		"-0;'-'0": true, "-0;+0": true, "0-;0m": false, "0;-0": true, "-0;0-": true,
	} {
		want(t, text, compiled(t, text), s, clear)
	}
	s.Minus, s.Plus, s.Currency = "aa", "a", "aaa"
	for text, clear := range map[string]bool{"-0;++0": false, "0-;0+a": false, "\u00a40;-+0": false, "\u00a40;+-0": false, "\u00a40;--0": true, "-0+;+0-": true, "+0;-0": true} {
		want(t, text, compiled(t, text), s, clear)
	}
	// Two symbols alike make their items alike, but Plus and Minus may not be alike at all.
	s = plainly('0')
	s.Percent = s.Currency
	want(t, "Percent is Currency", compiled(t, "0%;0\u00a4"), s, false)
	want(t, "Percent is Currency, elsewhere", compiled(t, "0%;\u00a40"), s, true)
}

// TestDecimalEnd: no prefix may end with all of Decimal; it may have it elsewhere, or end with a piece of it.
func TestDecimalEnd(t *testing.T) {
	for _, c := range []struct {
		decimal, text string
		clear         bool
	}{
		{".", "a'.'0;(0)", false}, {".", "'.'0;(0)", false}, {".", "0;'.'0", false}, {".", "0;a'.'0", false}, {".", "(0);a'.'0", false},
		{".", "'.'a0", true}, {".", "a'.'a0", true}, {".", "0'.'", true}, {".", "0'.'a", true}, {".", "0a'.'", true}, {".", "0;0'.'", true}, {".", "0;(0'.'", true}, {".", "0;'.'a0", true}, {".", "','0", true},
		{"ab", "ab0;(0)", false}, {"ab", "xab0;(0)", false}, {"ab", "0;xab0", false}, {"ab", "b0;(0)", true}, {"ab", "a0;(0)", true}, {"ab", "ba0;(0)", true}, {"ab", "aba0;(0)", true}, {"ab", "0ab", true}, {"ab", "a0b;(0)", true},
		{"aa", "a0;(0)", true}, {"aa", "aa0;(0)", false}, {"aa", "aaa0;(0)", false}, {"a", "aaa0;(0)", false},
		{"\u066b", "\u066b0;(0)", false}, {"\u066b", "\u066c0;(0)", true}, {"\u066b", "\u00eb0;(0)", true}, {"\u20ac", "\u20ac0;(0)", false}, {"\u20ac", "\u24ac0;(0)", true},
		{"\x00", "\x000;(0)", false}, {"\x00", "a0;(0)", true}, {"\ufffd", "\ufffd0;(0)", false},
		{"abcdefghijklmnop", "abcdefghijklmnop0;(0)", false}, {"abcdefghijklmnop", "bcdefghijklmnop0;(0)", true}, {"abcdefghijklmnop", "abcdefghijklmno0;(0)", true},
		{"m", "<0", true}, {"m", "-0;(0)", false}, {"m", "0;-0", false}, {"m", "0;0-", true}, {"m", "0;(-0)", false}, {"m", "0;-(0)", true},
		{"c", "%0;(0)", false}, {"y", "\u00a40;(0)", false}, {"y", "\u00a4 0;(0)", true}, {"py", "+\u00a40;(0)", false}, {"py", "\u00a4+0;(0)", true}, {"ay", "a\u00a40;(0)", false}, {"p", "0;+0", false},
	} {
		s := plainly('0')
		s.Decimal = c.decimal
		p := compiled(t, c.text)
		want(t, fmt.Sprintf("Decimal %q, %q", c.decimal, c.text), p, s, c.clear)
	}
	// Without a second half what stands ahead of what is below 0 ends as the prefix does: with Minus, if that is empty.
	s := plainly('0')
	s.Decimal = s.Minus
	want(t, "Decimal is Minus", compiled(t, "0"), s, false)
	s.Minus = "z" + s.Decimal
	want(t, "Minus ends with Decimal", compiled(t, "0"), s, false)
	want(t, "Minus ends with Decimal, within a prefix", compiled(t, "<0"), s, true)
	s.Minus = s.Decimal + "z"
	want(t, "Minus begins with Decimal", compiled(t, "0"), s, true)
}

// TestSame: which symbols may not be the same, whatever the pattern writes of them.
func TestSame(t *testing.T) {
	texts := []string{"0;(0)", "#,##0.0;(0)", "0E0;(0)", "0.#E+0;(0)", "*x#;(0)", "@@#;(0)", "0.05;(0)", "0%;(0)", "-0;+0"}
	every := append(slices.Clone(always), bySign[4], bySign[5], bySign[6])
	for _, text := range texts {
		p := compiled(t, text)
		for i, one := range every {
			for _, other := range every[:i] {
				s := plainly('0')
				*one.at(&s) = *other.at(&s)
				pair := other.name + " " + one.name
				clear := pair != "Decimal Group" && pair != "Minus Plus" && !(text == "-0;+0" && strings.HasPrefix(pair, "Decimal "+"Minus")) && !(text == "-0;+0" && pair == "Decimal Plus")
				if got := Clear(p, s); got != clear {
					t.Errorf("%q: %s alike: %v", text, pair, got)
				}
				hold(t, p, s)
			}
		}
		// One may begin or end with the other.
		for _, x := range [][2]string{{"d", "dd"}, {"dd", "d"}, {"d", "gd"}, {"d", "dg"}, {"D", "d"}, {"d", "d\u0307"}} {
			s := plainly('0')
			s.Decimal, s.Group = x[0], x[1]
			want(t, "Decimal and Group", p, s, true)
			s = plainly('0')
			s.Minus, s.Plus, s.Decimal = x[0], x[1], "#"
			want(t, "Minus and Plus", p, s, true)
		}
	}
}

// TestUnwritten: what the number part says counts for nothing.
func TestUnwritten(t *testing.T) {
	bad := plainly('0')
	bad.E = "e0"
	other := plainly('0')
	other.Group = other.Decimal
	for _, part := range []string{"0", "#", ".0", "#,##0", "#,##,##0.00##", "@", "@@##", "0.25", "0E0", "##0.##E+00", "@@E0", "0000", "#.#"} {
		for _, half := range []string{"", ";(0)"} {
			p := compiled(t, part+half)
			want(t, part, p, plainly('0'), true)
			want(t, part, p, bad, false)
			want(t, part, p, other, false)
		}
		want(t, part, compiled(t, part+";"+part), plainly('0'), false)
	}
}

// TestAll: all short affixes of a few parts, by symbols that have to do with them.
func TestAll(t *testing.T) {
	tables := []api.Symbols{symbol.Latin(), plainly('0'), plainly('a'), plainly('.')}
	for _, c := range [][2]string{{".", ","}, {"a", "."}, {"aa", "a"}, {"-", "."}, {".a", "."}, {"1", ","}, {"x", ","}} {
		s := symbol.Latin()
		s.Decimal, s.Group = c[0], c[1]
		tables = append(tables, s)
		s.Minus = "a"
		tables = append(tables, s)
		s.Zero, s.Minus = 0x660, "."
		tables = append(tables, s)
	}
	parts := []string{"", "a", "-", "'.'", "'1'", "x", "'.'a", "a'.'", "-a"}
	clear, all := 0, 0
	for _, pad := range []string{"", "*x", "*.", "*a", "*5"} {
		for _, prefix := range parts {
			for _, suffix := range parts[:5] {
				for _, negPrefix := range append([]string{";"}, parts...) {
					for _, negSuffix := range parts[:5] {
						text := pad + prefix + "0" + suffix
						if negPrefix != ";" {
							text += ";" + negPrefix + "0" + negSuffix
						}
						p := compiled(t, text)
						for _, s := range tables {
							all++
							if hold(t, p, s) {
								clear++
							}
						}
					}
				}
			}
		}
	}
	if clear < all/50 || clear > all/2 {
		t.Errorf("%d of %d are clear", clear, all)
	}
}

// TestRandom: patterns and symbols of all sorts.
func TestRandom(t *testing.T) {
	random := rand.New(rand.NewSource(21))
	pick := func(list ...string) string { return list[random.Intn(len(list))] }
	some := func(n int, list ...string) string {
		out := ""
		for range random.Intn(n) {
			out += pick(list...)
		}
		return out
	}
	affix := func() string {
		return some(4, "a", "b", "-", "+", "%", "\u00a4", "'.'", "','", "\u066b", "\u20ac", "'E'", "'e'", " ", "\x00", "\ufffd", pick("a", "b", "'7'", "\u0663"))
	}
	clear := 0
	for range 100000 {
		text := affix() + pick("0", "#,##0.00", "@@#", "##0.#E0", "0.05") + affix()
		if random.Intn(3) == 0 {
			text = pick("*x", "* ", "*_", "*\x00", "*\ufffd", "*7", "*a", "*\u0663") + text
		}
		if random.Intn(2) == 0 {
			text += ";" + affix() + "0" + affix()
		}
		p := compiled(t, text)
		s := symbol.Latin()
		s.Zero = []rune{'0', 0x660, 0xfff4}[random.Intn(3)]
		for _, one := range []*string{&s.Decimal, &s.Group, &s.Minus, &s.Plus, &s.Percent, &s.Permille, &s.Currency, &s.E} {
			if random.Intn(4) == 0 {
				*one = pick("a", "b", ".", ",", "-", "+", "'", "_", "\u066b", "\u20ac", "ab", "\u2212", "-\u200e", "\x00", "x10^", "\ufffd", "\u0663")
			}
		}
		if hold(t, p, s) {
			clear++
		}
	}
	if clear < 20000 || clear > 80000 {
		t.Errorf("%d are clear", clear)
	}
}

// share tells whether two texts have a byte of memory in common.
func share(a, b string) bool {
	if a == "" || b == "" {
		return false
	}
	from, at := uintptr(unsafe.Pointer(unsafe.StringData(a))), uintptr(unsafe.Pointer(unsafe.StringData(b)))
	return from < at+uintptr(len(b)) && at < from+uintptr(len(a))
}

// TestMemory: what is handed in stays, spare room too, and what is answered shares nothing with it, or with another answer.
func TestMemory(t *testing.T) {
	p := compiled(t, "*x\u00a40%;-0+")
	for _, items := range affixes(&p) {
		room := append(slices.Clone(*items), lit('r'), lit('s'))
		*items = room[:len(room)-2]
	}
	whole := func(p api.Pattern) api.Pattern {
		for _, items := range affixes(&p) {
			*items = slices.Clone((*items)[:len(*items)+2])
		}
		return p
	}
	before := whole(p)
	s := plainly('0')
	s.Minus, s.Plus, s.Percent, s.Currency = strings.Repeat("m", 3), strings.Repeat("p", 3), strings.Repeat("c", 3), strings.Repeat("y", 3)
	handed := s
	var answers []string
	for range 2 {
		for _, neg := range []bool{false, true} {
			a, b := Pair(p, s, neg)
			answers = append(answers, a, b)
		}
		if !Clear(p, s) {
			t.Error("not clear")
		}
	}
	if !slices.Equal(answers, []string{"yyy", "ccc", "mmm", "ppp", "yyy", "ccc", "mmm", "ppp"}) {
		t.Errorf("Pair = %q", answers)
	}
	for i, a := range answers {
		for _, b := range slices.Concat(answers[:i], []string{s.Minus, s.Plus, s.Percent, s.Currency}) {
			if share(a, b) {
				t.Errorf("%q shares memory", a)
			}
		}
	}
	if !reflect.DeepEqual(whole(p), before) || s != handed {
		t.Errorf("what is handed in is changed: %+v, %+q", p, s)
	}
}

// TestAgain: no call has to do with those ahead of it.
func TestAgain(t *testing.T) {
	good, bad := compiled(t, "*x0;(0)"), compiled(t, "x*x0")
	for range 3 {
		want(t, "good", good, plainly('0'), true)
		want(t, "bad", compiled(t, "0;0"), plainly('0'), false)
		hold(t, bad, plainly('x'))
		want(t, "another system", compiled(t, "0"), plainly('z'), true)
	}
}

// TestEnd: of what is not good nothing is promised, but that the calls end.
func TestEnd(t *testing.T) {
	numbers := []int{math.MinInt, math.MinInt32, -1, 0, 1, 4, 5, 7, math.MaxInt32, math.MaxInt}
	runes := []rune{math.MinInt32, -1, 0, '0', 0xd7ff, 0xd800, 0xdfff, 0xfffd, 0x10ffff, 0x110000, math.MaxInt32 - 5, math.MaxInt32}
	texts := []string{"", "a", "0", "\xff", "\xe2\x82", "\x80\x80", strings.Repeat("\u20ac", 1<<16)}
	for _, kind := range numbers {
		for _, r := range runes {
			for _, text := range texts {
				items := []api.Item{{Kind: kind, R: r}, lit('a'), {Kind: 2}, {Kind: 6}}
				p := api.Pattern{Prefix: items[:1], Suffix: items, NegPrefix: items[1:], NegSuffix: items[:0], PadAt: kind, Pad: r, Width: kind, MinInt: kind, MaxFrac: kind, Primary: kind}
				s := api.Symbols{Zero: r, Decimal: text, Group: text + "x", Minus: text, Plus: "y" + text, Percent: text, Permille: text, Currency: text, E: text}
				first := Clear(p, s)
				a, b := Pair(p, s, false)
				c, d := Pair(p, s, true)
				again, _ := Pair(p, s, false)
				if Clear(p, s) != first || again != a {
					t.Errorf("Pair = %q, %q, %q, %q, then another answer", a, b, c, d)
				}
			}
		}
	}
	long := slices.Repeat([]api.Item{lit('a'), {Kind: 6}}, 1<<18)
	if a, b := Pair(api.Pattern{Prefix: long, Suffix: long}, plainly('0'), false); len(a) != 1<<19 || a != b {
		t.Errorf("Pair of long affixes has %d and %d bytes", len(a), len(b))
	}
	Clear(api.Pattern{Prefix: long, NegSuffix: long}, plainly('0'))
	Clear(api.Pattern{}, api.Symbols{})
}
