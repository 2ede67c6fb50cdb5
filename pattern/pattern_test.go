package pattern

import (
	"math"
	"math/rand"
	"reflect"
	"regexp"
	"slices"
	"strings"
	"testing"

	"figurehead/api"
	"figurehead/number"
	"figurehead/token"
)

// kinds are the signs and their items' kinds, written out once more.
var kinds = map[rune]int{'-': 2, '+': 3, '%': 4, 0x2030: 5, 0xa4: 6}

// numbered cuts a half, of which each element is told by one byte (sorted), about its number.
var numbered = regexp.MustCompile(`^([^n]*)(n+(?:E\+?n*)?)(.*)$`)

// unit is an element, as the tests have it.
type unit struct {
	api.Token
	padding bool
}

// lit is an item Lit.
func lit(r rune) api.Item { return api.Item{Kind: 1, R: r} }

// sign is a sign's item.
func sign(kind int) api.Item { return api.Item{Kind: kind} }

// lits are the items Lit of a text.
func lits(s string) []api.Item {
	var items []api.Item
	for _, r := range s {
		items = append(items, lit(r))
	}
	return items
}

// fail is no pattern, and the fault.
func fail(e api.Errno, at int) (api.Pattern, api.Fault) {
	return api.Pattern{}, api.Fault{E: e, At: at}
}

// sorted tells each element by one byte: n of a number's rows, E, +, ;, * padding, x all else.
func sorted(list []unit) string {
	out := ""
	for _, one := range list {
		switch {
		case one.padding:
			out += "*"
		case one.Quoted:
			out += "x"
		case strings.ContainsRune("#0123456789@,.", one.R):
			out += "n"
		case strings.ContainsRune("E+;", one.R):
			out += string(one.R)
		default:
			out += "x"
		}
	}
	return out
}

// units are the elements of s, or the first fault that has to do with no half.
func units(s string) ([]unit, api.Fault) {
	tokens, fault := token.Scan(s)
	var list []unit
	for i := 0; i < len(tokens); i++ {
		one := unit{Token: tokens[i]}
		if one.R == '*' && !one.Quoted {
			if i++; i == len(tokens) {
				return nil, api.Fault{E: api.ErrPad, At: one.At}
			}
			one.R, one.padding = tokens[i].R, true
		}
		list = append(list, one)
	}
	if told := sorted(list); strings.Count(told, ";") > 1 {
		return nil, api.Fault{E: api.ErrNumber, At: list[strings.IndexByte(told, ';')+1+strings.IndexByte(told[strings.IndexByte(told, ';')+1:], ';')].At}
	}
	return list, fault
}

// about is what the words make of an affix's elements.
func about(list []unit) ([]api.Item, api.Fault) {
	var items []api.Item
	for _, one := range list {
		switch {
		case one.padding:
		case !one.Quoted && strings.ContainsRune("#0123456789@,.;*", one.R):
			return nil, api.Fault{E: api.ErrNumber, At: one.At}
		case !one.Quoted && kinds[one.R] != 0:
			items = append(items, sign(kinds[one.R]))
		default:
			items = append(items, lit(one.R))
		}
	}
	if len(items) > 40 {
		return nil, api.Fault{E: api.ErrLong}
	}
	return items, api.Fault{}
}

// readHalf is what the words make of a half that begins at the place.
func readHalf(list []unit, begin int, second bool) (api.Pattern, api.Fault) {
	cut := numbered.FindStringSubmatchIndex(sorted(list))
	if cut == nil {
		return fail(api.ErrNumber, begin)
	}
	start, end := cut[4], cut[5]
	places := map[int]int{}
	if !second {
		// The first place that holds is written last.
		places[len(list)-1] = 4
		places[end] = 3
		places[start-1] = 2
		places[0] = 1
	}
	pads := 0
	var p api.Pattern
	for i, one := range list {
		if !one.padding {
			continue
		}
		if pads++; pads > 1 || places[i] == 0 {
			return fail(api.ErrPad, one.At)
		}
		p.PadAt, p.Pad = places[i], one.R
	}
	prefix, fault := about(list[:start])
	if fault.E != 0 {
		return fail(fault.E, fault.At)
	}
	text := ""
	for _, one := range list[start:end] {
		text += string(one.R)
	}
	fields, errno := number.Parse(text)
	if errno != 0 {
		return fail(errno, list[start].At)
	}
	suffix, fault := about(list[end:])
	if fault.E != 0 {
		return fail(fault.E, fault.At)
	}
	fields.Prefix, fields.Suffix, fields.PadAt, fields.Pad = prefix, suffix, p.PadAt, p.Pad
	if pads > 0 {
		fields.Width = len(prefix) + len(suffix) + len(text)
	}
	return fields, api.Fault{}
}

// read is what the chapter's words make of s.
func read(s string) (api.Pattern, api.Fault) {
	list, fault := units(s)
	if fault.E != 0 {
		return fail(fault.E, fault.At)
	}
	ahead, behind, two := list, []unit(nil), false
	if i := strings.IndexByte(sorted(list), ';'); i >= 0 {
		ahead, behind, two = list[:i], list[i+1:], true
	}
	p, fault := readHalf(ahead, 0, false)
	if fault.E != 0 {
		return fail(fault.E, fault.At)
	}
	p.NegPrefix, p.NegSuffix = slices.Concat([]api.Item{sign(2)}, p.Prefix), p.Suffix
	if two {
		q, fault := readHalf(behind, list[len(ahead)].At+1, true)
		if fault.E != 0 {
			return fail(fault.E, fault.At)
		}
		p.HasNeg, p.NegPrefix, p.NegSuffix = true, q.Prefix, q.Suffix
	}
	if all := slices.Concat(p.Prefix, p.Suffix, p.NegPrefix, p.NegSuffix); slices.Contains(all, sign(4)) && slices.Contains(all, sign(5)) {
		return fail(api.ErrMix, 0)
	}
	return p, api.Fault{}
}

// same tells whether both are the same pattern; nil and empty lists are the same.
func same(a, b api.Pattern) bool {
	for _, p := range []*api.Pattern{&a, &b} {
		for _, items := range []*[]api.Item{&p.Prefix, &p.Suffix, &p.NegPrefix, &p.NegSuffix} {
			if len(*items) == 0 {
				*items = nil
			}
		}
	}
	return reflect.DeepEqual(a, b)
}

// hold holds Compile of s, and Mult of what it answers, against the chapter's words, and answers whether s is a pattern.
func hold(t *testing.T, s string) bool {
	t.Helper()
	want, wantFault := read(s)
	got, fault := Compile(s)
	if fault != wantFault || !same(got, want) {
		t.Errorf("Compile(%q) = %+v, %v, want %+v, %v", s, got, fault, want, wantFault)
	}
	mult := 0
	for _, one := range slices.Concat(want.Prefix, want.Suffix, want.NegPrefix, want.NegSuffix) {
		if one == sign(4) || one == sign(5) {
			mult = one.Kind - 2
		}
	}
	if Mult(got) != mult {
		t.Errorf("Mult of %q = %d, want %d", s, Mult(got), mult)
	}
	return wantFault.E == 0
}

// texts calls do with all texts of up to n of the parts.
func texts(parts []string, n int, do func(string)) {
	do("")
	if n == 0 {
		return
	}
	for _, one := range parts {
		texts(parts, n-1, func(s string) { do(one + s) })
	}
}

// TestExample: the chapter's example.
func TestExample(t *testing.T) {
	p, fault := Compile("#,##0.00;(#)")
	want := api.Pattern{
		MinInt: 1, MinFrac: 2, MaxFrac: 2, Primary: 3, Secondary: 3,
		HasNeg: true, NegPrefix: lits("("), NegSuffix: lits(")"),
	}
	if fault != (api.Fault{}) || !same(p, want) {
		t.Errorf("Compile = %+v, %v", p, fault)
	}
}

func TestCompileTable(t *testing.T) {
	minus := []api.Item{sign(2)}
	cases := []struct {
		s    string
		want api.Pattern
	}{
		{"0", api.Pattern{MinInt: 1, NegPrefix: minus}},
		{"0;0", api.Pattern{MinInt: 1, HasNeg: true}},
		{"#;-#", api.Pattern{HasNeg: true, NegPrefix: minus}},
		{"a0b", api.Pattern{MinInt: 1, Prefix: lits("a"), Suffix: lits("b"), NegPrefix: append(minus[:1:1], lit('a')), NegSuffix: lits("b")}},
		{"-0", api.Pattern{MinInt: 1, Prefix: minus, NegPrefix: []api.Item{sign(2), sign(2)}}},
		{"+0-;-0+", api.Pattern{MinInt: 1, Prefix: []api.Item{sign(3)}, Suffix: minus, HasNeg: true, NegPrefix: minus, NegSuffix: []api.Item{sign(3)}}},
		// The second half's number counts for nothing.
		{"#,##0.0;a@@#b", api.Pattern{MinInt: 1, MinFrac: 1, MaxFrac: 1, Primary: 3, Secondary: 3, HasNeg: true, NegPrefix: lits("a"), NegSuffix: lits("b")}},
		{"0;#,##0.05", api.Pattern{MinInt: 1, HasNeg: true}},
		{"0;##0E+000", api.Pattern{MinInt: 1, HasNeg: true}},
		// An E ahead of the number, behind it, and behind that.
		{"E0", api.Pattern{MinInt: 1, Prefix: lits("E"), NegPrefix: append(minus[:1:1], lit('E'))}},
		{"0E00", api.Pattern{MinInt: 1, MaxInt: 1, Sci: true, MinExp: 2, NegPrefix: minus}},
		{"#0.#E+0x", api.Pattern{MinInt: 1, MaxInt: 2, MaxFrac: 1, Sci: true, PlusExp: true, MinExp: 1, Suffix: lits("x"), NegPrefix: minus, NegSuffix: lits("x")}},
		{"@#E0E+", api.Pattern{MinSig: 1, MaxSig: 2, Sci: true, MinExp: 1, Suffix: []api.Item{lit('E'), sign(3)}, NegPrefix: minus, NegSuffix: []api.Item{lit('E'), sign(3)}}},
		{"EE0E0EE", api.Pattern{MinInt: 1, MaxInt: 1, Sci: true, MinExp: 1, Prefix: lits("EE"), Suffix: lits("EE"), NegPrefix: append(minus[:1:1], lits("EE")...), NegSuffix: lits("EE")}},
		{"0'E'", api.Pattern{MinInt: 1, Suffix: lits("E"), NegPrefix: minus, NegSuffix: lits("E")}},
		{"0+E", api.Pattern{MinInt: 1, Suffix: []api.Item{sign(3), lit('E')}, NegPrefix: minus, NegSuffix: []api.Item{sign(3), lit('E')}}},
		{"0e", api.Pattern{MinInt: 1, Suffix: lits("e"), NegPrefix: minus, NegSuffix: lits("e")}},
		{"0;E0E+0E", api.Pattern{MinInt: 1, HasNeg: true, NegPrefix: lits("E"), NegSuffix: lits("E")}},
		// What is quoted belongs to no number, and parts no halves.
		{"'#'0'#'", api.Pattern{MinInt: 1, Prefix: lits("#"), Suffix: lits("#"), NegPrefix: append(minus[:1:1], lit('#')), NegSuffix: lits("#")}},
		{"';'0';'", api.Pattern{MinInt: 1, Prefix: lits(";"), Suffix: lits(";"), NegPrefix: append(minus[:1:1], lit(';')), NegSuffix: lits(";")}},
		{"'*'0'*';''0''", api.Pattern{MinInt: 1, Prefix: lits("*"), Suffix: lits("*"), HasNeg: true, NegPrefix: lits("'"), NegSuffix: lits("'")}},
		{"'-%'0.5'\u2030';-0", api.Pattern{MinInt: 1, MinFrac: 1, MaxFrac: 1, Inc: "5", Prefix: lits("-%"), Suffix: lits("\u2030"), HasNeg: true, NegPrefix: minus}},
		{"\u0660\u00a4.5\uff10", api.Pattern{MinFrac: 1, MaxFrac: 1, Inc: "5", Prefix: []api.Item{lit(0x660), sign(6)}, Suffix: lits("\uff10"), NegPrefix: []api.Item{sign(2), lit(0x660), sign(6)}, NegSuffix: lits("\uff10")}},
		// Padding counts for itself alone, and the width is that of the first half, as it is written.
		{"*x0", api.Pattern{MinInt: 1, NegPrefix: minus, PadAt: api.BeforePrefix, Pad: 'x', Width: 1}},
		{"*x#,##0", api.Pattern{MinInt: 1, Primary: 3, Secondary: 3, NegPrefix: minus, PadAt: api.BeforePrefix, Pad: 'x', Width: 5}},
		{"*\u2030###0.#E+00'a'%;%0%", api.Pattern{MinInt: 1, MaxInt: 4, MaxFrac: 1, Sci: true, PlusExp: true, MinExp: 2, Suffix: []api.Item{lit('a'), sign(4)}, HasNeg: true, NegPrefix: []api.Item{sign(4)}, NegSuffix: []api.Item{sign(4)}, PadAt: api.BeforePrefix, Pad: 0x2030, Width: 12}},
		{"\u20ac\u20ac*\U0001f6000;longer0longer", api.Pattern{MinInt: 1, Prefix: lits("\u20ac\u20ac"), HasNeg: true, NegPrefix: lits("longer"), NegSuffix: lits("longer"), PadAt: api.AfterPrefix, Pad: 0x1f600, Width: 3}},
	}
	for _, c := range cases {
		if p, fault := Compile(c.s); fault != (api.Fault{}) || !same(p, c.want) {
			t.Errorf("Compile(%q) = %+v, %v, want %+v", c.s, p, fault, c.want)
		}
		hold(t, c.s)
	}
}

// TestPadding: each place at which padding stands right, whatever it is; the first of these that holds.
func TestPadding(t *testing.T) {
	cases := []struct {
		ahead, behind string
		at            int
	}{
		{"", "0", api.BeforePrefix}, {"", "a0", api.BeforePrefix}, {"", "ab0c", api.BeforePrefix}, {"", "a0;b0", api.BeforePrefix},
		{"a", "0", api.AfterPrefix}, {"ab", "0c", api.AfterPrefix}, {"-", "0.#E0", api.AfterPrefix}, {"'#'", "0;0", api.AfterPrefix},
		{"0", "", api.BeforeSuffix}, {"0", "a", api.BeforeSuffix}, {"a0", "bc", api.BeforeSuffix}, {"0E0", "E", api.BeforeSuffix}, {"0", "xE", api.BeforeSuffix}, {"0", "+;0", api.BeforeSuffix},
		{"0a", "", api.AfterSuffix}, {"a0bc", "", api.AfterSuffix}, {"0E0%", "", api.AfterSuffix}, {"0'0'", ";(0)", api.AfterSuffix}, {"0''", "", api.AfterSuffix},
	}
	pads := map[string]rune{"x": 'x', "'x'": 'x', "*": '*', "'*'": '*', ";": ';', "';'": ';', "0": '0', "#": '#', "'#'": '#', "''": '\'', "-": '-', "%": '%', "E": 'E', ",": ',', " ": ' ', "\u00a4": 0xa4, "\U0001f600": 0x1f600, "\x00": 0, "\ufffd": 0xfffd}
	for _, c := range cases {
		plain, fault := Compile(c.ahead + c.behind)
		if fault.E != api.OK {
			t.Fatalf("Compile(%q) = %v", c.ahead+c.behind, fault)
		}
		tokens, _ := token.Scan(strings.Split(strings.ReplaceAll(c.ahead+c.behind, "';'", "x"), ";")[0])
		for written, pad := range pads {
			s := c.ahead + "*" + written + c.behind
			want := plain
			want.PadAt, want.Pad, want.Width = c.at, pad, len(tokens)
			// A quote behind a quoted pad would belong to it.
			if strings.HasSuffix(written, "'") && strings.HasPrefix(c.behind, "'") {
				continue
			}
			if p, fault := Compile(s); fault != (api.Fault{}) || !same(p, want) {
				t.Errorf("Compile(%q) = %+v, %v, want %+v", s, p, fault, want)
			}
			hold(t, s)
		}
	}
}

// TestPaddingParts: padding stands between a row and an E, or two rows, which then belong to no number together.
func TestPaddingParts(t *testing.T) {
	want := api.Pattern{MinInt: 1, Suffix: []api.Item{lit('E')}, NegPrefix: []api.Item{sign(2)}, NegSuffix: lits("E"), PadAt: api.BeforeSuffix, Pad: 'x', Width: 2}
	if p, fault := Compile("0*xE"); fault != (api.Fault{}) || !same(p, want) {
		t.Errorf("Compile = %+v, %v", p, fault)
	}
	for s, at := range map[string]int{"0*xE0": 4, "0*x0": 3, "a0E0*x0": 6} {
		if p, fault := Compile(s); fault != (api.Fault{E: api.ErrNumber, At: at}) {
			t.Errorf("Compile(%q) = %+v, %v", s, p, fault)
		}
	}
}

// TestQuotedPadding: of quotes behind a * the first code point alone is padding.
func TestQuotedPadding(t *testing.T) {
	want := api.Pattern{MinInt: 1, Prefix: lits("b0"), NegPrefix: append([]api.Item{sign(2)}, lits("b0")...), PadAt: api.BeforePrefix, Pad: 'a', Width: 3}
	if p, fault := Compile("*'ab0'0"); fault != (api.Fault{}) || !same(p, want) {
		t.Errorf("Compile = %+v, %v", p, fault)
	}
	want = api.Pattern{MinInt: 1, Suffix: lits("*x"), NegPrefix: []api.Item{sign(2)}, NegSuffix: lits("*x"), PadAt: api.BeforeSuffix, Pad: '*', Width: 3}
	if p, fault := Compile("0**'*x'"); fault != (api.Fault{}) || !same(p, want) {
		t.Errorf("Compile = %+v, %v", p, fault)
	}
}

// TestFaults: each fault, and its place.
func TestFaults(t *testing.T) {
	a41, n41 := strings.Repeat("a", 41), strings.Repeat("0", 41)
	cases := []struct {
		s    string
		want api.Fault
	}{
		// What chapter 13 finds.
		{"\xff", api.Fault{E: api.ErrText}},
		{"0;\u20ac\xe2\x82", api.Fault{E: api.ErrText, At: 5}},
		{"0'", api.Fault{E: api.ErrQuote, At: 1}},
		{"0'a';'", api.Fault{E: api.ErrQuote, At: 5}},
		{strings.Repeat("#", 401), api.Fault{E: api.ErrLong}},
		// A * behind which nothing stands.
		{"*", api.Fault{E: api.ErrPad}},
		{"0*", api.Fault{E: api.ErrPad, At: 1}},
		{"***", api.Fault{E: api.ErrPad, At: 2}},
		{"\u20ac0;0*", api.Fault{E: api.ErrPad, At: 6}},
		// A second ;.
		{";;", api.Fault{E: api.ErrNumber, At: 1}},
		{"0;0;", api.Fault{E: api.ErrNumber, At: 3}},
		{"0*;;a;b;c", api.Fault{E: api.ErrNumber, At: 5}},
		{"0';';\u20ac0;0", api.Fault{E: api.ErrNumber, At: 9}},
		// A half without a number.
		{"", api.Fault{E: api.ErrNumber}},
		{"a", api.Fault{E: api.ErrNumber}},
		{"'0'", api.Fault{E: api.ErrNumber}},
		{"E", api.Fault{E: api.ErrNumber}},
		{"*0", api.Fault{E: api.ErrNumber}},
		{";", api.Fault{E: api.ErrNumber}},
		{";0", api.Fault{E: api.ErrNumber}},
		{"a;0", api.Fault{E: api.ErrNumber}},
		{"0;", api.Fault{E: api.ErrNumber, At: 2}},
		{"\u20ac0;-", api.Fault{E: api.ErrNumber, At: 5}},
		{"0*;;'0'", api.Fault{E: api.ErrNumber, At: 4}},
		// Padding that does not stand right, or is not alone.
		{"a*xb0", api.Fault{E: api.ErrPad, At: 1}},
		{"0a*xb", api.Fault{E: api.ErrPad, At: 2}},
		{"*a*b0", api.Fault{E: api.ErrPad, At: 2}},
		{"0*a*b", api.Fault{E: api.ErrPad, At: 3}},
		{"*a0*b", api.Fault{E: api.ErrPad, At: 3}},
		{"*\u20acx*b0", api.Fault{E: api.ErrPad, At: 5}},
		{"x*a0b*c", api.Fault{E: api.ErrPad, At: 5}},
		{"*a*b*c0", api.Fault{E: api.ErrPad, At: 2}},
		{"*aa*bb*c0", api.Fault{E: api.ErrPad, At: 3}},
		{"a*bb0*c", api.Fault{E: api.ErrPad, At: 1}},
		{"0;*x0", api.Fault{E: api.ErrPad, At: 2}},
		{"0;x*x0", api.Fault{E: api.ErrPad, At: 3}},
		{"0;0*x", api.Fault{E: api.ErrPad, At: 3}},
		{"0;0x*x*y", api.Fault{E: api.ErrPad, At: 4}},
		{"*x0;*x0", api.Fault{E: api.ErrPad, At: 4}},
		// The second one may not be, whether or not a third one stands wrong.
		{"*a0*bx*cy", api.Fault{E: api.ErrPad, At: 3}},
		// Affixes of too many items, or with marks.
		{a41 + "0", api.Fault{E: api.ErrLong}},
		{"0" + a41, api.Fault{E: api.ErrLong}},
		{"0;" + a41 + "0", api.Fault{E: api.ErrLong}},
		{"0;0" + a41, api.Fault{E: api.ErrLong}},
		{"0a0", api.Fault{E: api.ErrNumber, At: 2}},
		{"0*x0", api.Fault{E: api.ErrNumber, At: 3}},
		{"0'a'a,b.", api.Fault{E: api.ErrNumber, At: 5}},
		{"0E0E0", api.Fault{E: api.ErrNumber, At: 4}},
		{"0''0", api.Fault{E: api.ErrNumber, At: 3}},
		{"0'E'0", api.Fault{E: api.ErrNumber, At: 4}},
		{"0+0", api.Fault{E: api.ErrNumber, At: 2}},
		{"0E0+0", api.Fault{E: api.ErrNumber, At: 4}},
		{"0;0a0", api.Fault{E: api.ErrNumber, At: 4}},
		// What chapter 15 finds, at the number's first character.
		{"ab0.", api.Fault{E: api.ErrNumber, At: 2}},
		{"0E", api.Fault{E: api.ErrNumber}},
		{"a0E+", api.Fault{E: api.ErrNumber, At: 1}},
		{"a0Ex0", api.Fault{E: api.ErrNumber, At: 1}},
		{"a0E*x", api.Fault{E: api.ErrNumber, At: 1}},
		{"a0E+*xb", api.Fault{E: api.ErrNumber, At: 1}},
		{"a0E'+'0", api.Fault{E: api.ErrNumber, At: 1}},
		{"a0E++0", api.Fault{E: api.ErrNumber, At: 1}},
		{"a0E#", api.Fault{E: api.ErrNumber, At: 1}},
		{"\u20ac'0'*x0,;0", api.Fault{E: api.ErrGroup, At: 8}},
		{"*x@0", api.Fault{E: api.ErrMix, At: 2}},
		{"*xa" + n41, api.Fault{E: api.ErrLong, At: 3}},
		{"a0E0000000000", api.Fault{E: api.ErrLong, At: 1}},
		{"0;a@.", api.Fault{E: api.ErrNumber, At: 3}},
		{"0;a,0", api.Fault{E: api.ErrGroup, At: 3}},
		{"0;@0", api.Fault{E: api.ErrMix, At: 2}},
		{"0;a" + n41, api.Fault{E: api.ErrLong, At: 3}},
		// Percent and permille, in all.
		{"%\u20300", api.Fault{E: api.ErrMix}},
		{"%0\u2030", api.Fault{E: api.ErrMix}},
		{"0\u2030%", api.Fault{E: api.ErrMix}},
		{"%0;\u20300", api.Fault{E: api.ErrMix}},
		{"\u20300;0%", api.Fault{E: api.ErrMix}},
		{"0%;\u20300", api.Fault{E: api.ErrMix}},
		{"0\u2030;a0%", api.Fault{E: api.ErrMix}},
		{"0;%0\u2030", api.Fault{E: api.ErrMix}},
	}
	for _, c := range cases {
		if p, fault := Compile(c.s); fault != c.want || !same(p, api.Pattern{}) {
			t.Errorf("Compile(%q) = %+v, %v, want %v alone", c.s, p, fault, c.want)
		}
		hold(t, c.s)
	}
}

// TestOrder: of two faults the one that is named first is told. Each of these texts has the fault of its row, and that of one behind it.
func TestOrder(t *testing.T) {
	a41 := strings.Repeat("a", 41)
	cases := []struct {
		s    string
		want api.Fault
	}{
		{"0;0;0*\xff", api.Fault{E: api.ErrText, At: 6}},
		{"0;0;0'*", api.Fault{E: api.ErrQuote, At: 5}},
		{strings.Repeat(";", 400) + "*", api.Fault{E: api.ErrLong}},
		{"0;0;0*", api.Fault{E: api.ErrPad, At: 5}},
		{";*", api.Fault{E: api.ErrPad, At: 1}},
		{"a;0;0", api.Fault{E: api.ErrNumber, At: 3}},
		{"a*xb0;0;0", api.Fault{E: api.ErrNumber, At: 7}},
		{"0.;;", api.Fault{E: api.ErrNumber, At: 3}},
		{"a*xb;0", api.Fault{E: api.ErrNumber}},
		{a41 + ";0", api.Fault{E: api.ErrNumber}},
		{"a*xb0,", api.Fault{E: api.ErrPad, At: 1}},
		{a41 + "*xb0", api.Fault{E: api.ErrPad, At: 41}},
		{"0,a*xb0", api.Fault{E: api.ErrPad, At: 3}},
		{"*x0a0*y", api.Fault{E: api.ErrPad, At: 5}},
		{a41 + "0,", api.Fault{E: api.ErrLong}},
		{a41 + "0a0", api.Fault{E: api.ErrLong}},
		{"b0,a0", api.Fault{E: api.ErrGroup, At: 1}},
		{"b0," + a41, api.Fault{E: api.ErrGroup, At: 1}},
		{"b0a0;", api.Fault{E: api.ErrNumber, At: 3}},
		{"b0" + a41 + ";", api.Fault{E: api.ErrLong}},
		{"b0.;0,", api.Fault{E: api.ErrNumber, At: 1}},
		{"b0,;*x0", api.Fault{E: api.ErrGroup, At: 1}},
		{"*x0*y;*x0", api.Fault{E: api.ErrPad, At: 3}},
		{"%\u20300;", api.Fault{E: api.ErrNumber, At: 5 + 1}},
		{"%\u20300;*x0,", api.Fault{E: api.ErrPad, At: 5 + 1}},
		{"%\u20300;" + a41 + "0,", api.Fault{E: api.ErrLong}},
		{"%\u20300;0,a0", api.Fault{E: api.ErrGroup, At: 5 + 1}},
		{"%\u20300;0a0", api.Fault{E: api.ErrNumber, At: 5 + 3}},
		{"%\u20300;0", api.Fault{E: api.ErrMix}},
	}
	for _, c := range cases {
		if p, fault := Compile(c.s); fault != c.want || !same(p, api.Pattern{}) {
			t.Errorf("Compile(%q) = %+v, %v, want %v alone", c.s, p, fault, c.want)
		}
		hold(t, c.s)
	}
}

// TestLimits: 40 items an affix, padding apart, and 400 tokens, padding two of them.
func TestLimits(t *testing.T) {
	for _, one := range []string{"a", "-", "'0'b", "''b", "\u20ac"} {
		tokens, _ := token.Scan(one)
		for n := 38 / len(tokens); n < 43; n++ {
			row := strings.Repeat(one, n)
			for _, s := range []string{row + "0", "0" + row, "*x" + row + "0" + row, row + "*x0", "0*x" + row, "0" + row + "*x", "0;" + row + "0", row + "0" + row + ";0" + row, "0;a0" + row} {
				if ok := hold(t, s); ok != (n*len(tokens) <= 40) {
					t.Errorf("Compile(%q): %v", s, ok)
				}
			}
		}
	}
	a40 := strings.Repeat("a", 40)
	p, fault := Compile(a40 + "*x0" + a40)
	if fault.E != api.OK || p.Width != 81 || len(p.NegPrefix) != 41 || len(p.NegSuffix) != 40 {
		t.Errorf("Compile = %+v, %v", p, fault)
	}
	for n, want := range map[int]api.Errno{396: api.OK, 397: api.OK, 398: api.ErrLong, 399: api.ErrLong} {
		p, fault := Compile("*x" + strings.Repeat("#", n) + "0")
		if fault != (api.Fault{E: want}) || want == api.OK && p.Width != n+1 {
			t.Errorf("Compile of %d # = %+v, %v", n, p, fault)
		}
	}
}

// TestCompileAll: all short texts of several sets of parts, and of bytes.
func TestCompileAll(t *testing.T) {
	good := 0
	do := func(s string) {
		if hold(t, s) {
			good++
		}
	}
	texts([]string{"*", "0", "a", ";", "''"}, 7, do)
	texts([]string{"0", "E", "+", "*", ";", "'0'"}, 6, do)
	texts([]string{"0", "%", "\u2030", "-", ";", "*", "\u00a4"}, 5, do)
	texts([]string{"#", "0", "5", "@", ",", ".", "E", "a", ";"}, 5, do)
	texts([]string{"'", "0", "*", ";", "\u20ac", "\xff"}, 5, do)
	for a := range 256 {
		for b := range 256 {
			s := string([]byte{byte(a), byte(b)})
			do(s)
			do("0" + s)
			do(s + "0")
			do("0;" + s + "0")
		}
	}
	if good < 20000 {
		t.Errorf("only %d are patterns", good)
	}
}

// TestCompileRandom: long texts that are patterns, or nearly so, and these with one token more, less or another.
func TestCompileRandom(t *testing.T) {
	source := rand.New(rand.NewSource(16))
	pick := func(list ...string) string { return list[source.Intn(len(list))] }
	some := func(most int, list ...string) string {
		s := ""
		for range source.Intn(most + 1) {
			s += pick(list...)
		}
		return s
	}
	about := func(most int) string {
		return some(most, "a", "-", "+", "\u00a4", "'0'", "'E'", "E", " ", "\u20ac", "''", "';'", "\U0001f600", pick("%", "\u2030"))
	}
	pad := func(odds int) string {
		if source.Intn(odds) > 0 {
			return ""
		}
		return "*" + pick("x", "'x'", "0", "*", ";", "''", "%", "\u20ac")
	}
	half := func(odds int) string {
		most := pick("3", "3", "3", "45")
		n := 3 + 42*(len(most)-1)
		part := pick("0", "#", "#,##0.00", "#,##,##0.###", "@@#", "##0.0#E+00", "0E0", ".5", "000", "@E0", "0.", "0E", "@0", "#,")
		return pad(odds) + about(n) + pad(odds) + part + pad(odds) + about(n) + pad(odds)
	}
	good := 0
	for range 40000 {
		s := half(4)
		if source.Intn(2) == 0 {
			s += ";" + half(40)
		}
		if hold(t, s) {
			good++
		}
		runes := []rune(s)
		at := source.Intn(len(runes))
		one := pick("*", ";", "'", "0", "E", "+", "%", "a")
		hold(t, string(runes[:at])+one+string(runes[at:]))
		hold(t, string(runes[:at])+one+string(runes[at+1:]))
		hold(t, string(runes[:at])+string(runes[at+1:]))
	}
	if good < 4000 {
		t.Errorf("only %d are patterns", good)
	}
}

// TestSecondHalf: a second half that says what there is without one changes nothing but HasNeg.
func TestSecondHalf(t *testing.T) {
	for _, s := range []string{"0", "a#,##0.00b", "%0", "0\u2030", "-0+", "@@#E0E", "'*'0';'", "''.5"} {
		alone, _ := Compile(s)
		both, fault := Compile(s + ";-" + s)
		alone.HasNeg = true
		if fault != (api.Fault{}) || !same(alone, both) {
			t.Errorf("Compile(%q) = %+v, %v, want %+v", s+";-"+s, both, fault, alone)
		}
	}
}

func TestMultTable(t *testing.T) {
	for s, want := range map[string]int{
		"0": 0, "a0b": 0, "-0+\u00a4": 0, "%0": 2, "0%": 2, "0 a%%": 2, "\u20300": 3, "0'%'\u2030": 3, "'%'0": 0, "0'\u2030'": 0,
		"0;%0": 2, "0;0%": 2, "0;\u20300": 3, "0;0a\u2030": 3, "%0;0": 2, "0\u2030;0": 3, "0%;%0": 2, "*%0": 0, "*\u20300%": 2,
	} {
		p, fault := Compile(s)
		if mult := Mult(p); fault.E != api.OK || mult != want {
			t.Errorf("Mult of %q = %d, %v, want %d", s, mult, fault, want)
		}
	}
}

// TestMultAll: whatever stands in each affix, whether or not some text has such a pattern; 2 goes ahead of 3.
func TestMultAll(t *testing.T) {
	rows := [][]api.Item{nil, {}, {sign(2), sign(3), sign(6)}, {lit('%')}, {lit(0x2030), lit('x')}, {sign(0), sign(-1), sign(7), sign(math.MaxInt), sign(math.MinInt)}, {sign(4)}, {lit('a'), sign(4)}, {sign(5)}, {sign(2), sign(5), lit('b')}, {sign(5), sign(4)}}
	for _, a := range rows {
		for _, b := range rows {
			for _, c := range rows {
				for _, d := range rows {
					p := api.Pattern{Prefix: a, Suffix: b, NegPrefix: c, NegSuffix: d, HasNeg: len(a) > 0}
					want := 0
					if all := slices.Concat(a, b, c, d); slices.Contains(all, sign(4)) {
						want = 2
					} else if slices.Contains(all, sign(5)) {
						want = 3
					}
					if got := Mult(p); got != want {
						t.Errorf("Mult(%+v) = %d, want %d", p, got, want)
					}
				}
			}
		}
	}
}

// spoil writes over a list, spare room included.
func spoil(items []api.Item) {
	items = items[:cap(items)]
	for i := range items {
		items[i] = sign(99)
	}
}

// TestMemory: the lists of an answer share nothing, spare room included, nor do two answers, and what is handed in stays.
func TestMemory(t *testing.T) {
	lists := func(p api.Pattern) [][]api.Item {
		return [][]api.Item{p.Prefix, p.Suffix, p.NegPrefix, p.NegSuffix}
	}
	for _, s := range []string{"ab0cd", "a0b;c0d", "*xabc#,##0.25%", "%0;(#)"} {
		want, _ := Compile(s)
		before := lists(want)
		for i := range before {
			before[i] = slices.Clone(before[i])
		}
		for i := range before {
			p, _ := Compile(s)
			after := lists(p)
			spoil(after[i])
			for j := range after {
				if j != i && !slices.Equal(after[j], before[j]) {
					t.Errorf("Compile(%q): lists %d and %d share memory", s, i, j)
				}
				if !slices.Equal(lists(want)[j], before[j]) {
					t.Errorf("Compile(%q): two answers share list %d", s, j)
				}
			}
		}
		if again, fault := Compile(s); fault != (api.Fault{}) || !same(again, want) {
			t.Errorf("Compile(%q) again = %+v, %v, want %+v", s, again, fault, want)
		}
	}
	p, _ := Compile("a%0b;\u00a40%")
	before, _ := Compile("a%0b;\u00a40%")
	Mult(p)
	if !same(p, before) {
		t.Errorf("Mult changes what is handed in: %+v", p)
	}
}

// TestEnd: long texts, and long affixes, end.
func TestEnd(t *testing.T) {
	const n = 1 << 22
	for s, want := range map[string]api.Fault{
		strings.Repeat("#", n):          {E: api.ErrLong},
		strings.Repeat("*", n):          {E: api.ErrLong},
		strings.Repeat(";", n):          {E: api.ErrLong},
		strings.Repeat("0", n) + "'":    {E: api.ErrQuote, At: n},
		strings.Repeat("0;", n):         {E: api.ErrLong},
		strings.Repeat("*", n) + "\xff": {E: api.ErrText, At: n},
	} {
		if p, fault := Compile(s); fault != want || !same(p, api.Pattern{}) {
			t.Errorf("Compile of %q and so on = %+v, %v, want %v", s[:4], p, fault, want)
		}
	}
	long := slices.Repeat([]api.Item{lit('%'), sign(2)}, n)
	if got := Mult(api.Pattern{Prefix: long, NegSuffix: append(long, sign(5))}); got != 3 {
		t.Errorf("Mult of long affixes = %d", got)
	}
}
