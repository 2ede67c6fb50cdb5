package print

import (
	"fmt"
	"math"
	"math/rand"
	"reflect"
	"slices"
	"strings"
	"testing"

	"figurehead/affix"
	"figurehead/api"
	"figurehead/number"
	"figurehead/pattern"
	"figurehead/token"
)

// ends are numbers that no field of a pattern has, or hardly one.
var ends = []int{-1, -2, -40, math.MinInt8, math.MinInt32, math.MinInt, 41, 100, 255, 256, 398, 399, 400, 401, math.MaxInt32, 1 << 32, 1<<32 + 1, 1<<32 + 3, math.MaxInt - 1, math.MaxInt}

// noPoints are numbers that are no code points.
var noPoints = []rune{-1, -'x', math.MinInt32, 0xd800, 0xdabc, 0xdfff, 0x110000, 0x1000000 + 'x', math.MaxInt32}

// lit is an item Lit.
func lit(r rune) api.Item { return api.Item{Kind: 1, R: r} }

// sign is a sign's item.
func sign(kind int) api.Item { return api.Item{Kind: kind} }

// lits are the items Lit of a text.
func lits(s string) []api.Item {
	var items []api.Item
	for _, r := range s {
		items = append(items, lit(r))
	}
	return items
}

// lists are the four affixes of p.
func lists(p *api.Pattern) []*[]api.Item {
	return []*[]api.Item{&p.Prefix, &p.Suffix, &p.NegPrefix, &p.NegSuffix}
}

// alike tells whether both are the same pattern; nil and empty lists are the same.
func alike(a, b api.Pattern) bool {
	for _, p := range []*api.Pattern{&a, &b} {
		for _, items := range lists(p) {
			if len(*items) == 0 {
				*items = nil
			}
		}
	}
	return reflect.DeepEqual(a, b)
}

// apart answers a copy of p that shares no memory with it.
func apart(p api.Pattern) api.Pattern {
	for _, items := range lists(&p) {
		*items = slices.Clone(*items)
	}
	return p
}

// compiled is what Compile makes of s, which has no fault.
func compiled(t *testing.T, s string) api.Pattern {
	t.Helper()
	p, fault := pattern.Compile(s)
	if fault.E != api.OK {
		t.Fatalf("Compile(%q) = %v", s, fault)
	}
	return p
}

// written is what the chapter's words make of p, which is good.
func written(p api.Pattern) string {
	pad := "*" + string(p.Pad)
	if p.Pad == '\'' {
		pad = "*''"
	}
	part := number.Print(number.Fields(p), 0)
	if p.PadAt != 0 {
		for len(p.Prefix)+len(part)+len(p.Suffix) < p.Width {
			part = "#" + part
		}
	}
	pieces := []string{affix.Print(p.Prefix), part, affix.Print(p.Suffix)}
	switch p.PadAt {
	case 1:
		pieces = slices.Insert(pieces, 0, pad)
	case 2:
		pieces = slices.Insert(pieces, 1, pad)
	case 3:
		pieces = slices.Insert(pieces, 2, pad)
	case 4:
		pieces = slices.Insert(pieces, 3, pad)
	}
	if p.HasNeg {
		pieces = append(pieces, ";", affix.Print(p.NegPrefix), "0", affix.Print(p.NegSuffix))
	}
	return strings.Join(pieces, "")
}

// hold holds both calls against the chapter's words, of p that is what Compile makes of s.
func hold(t *testing.T, s string, p api.Pattern) {
	t.Helper()
	before := apart(p)
	text := Print(p)
	if want := written(p); text != want {
		t.Errorf("Print of %q = %q, want %q", s, text, want)
	}
	if !Good(p) {
		t.Errorf("Good of %q = false: %+v", s, p)
	}
	if back, fault := pattern.Compile(text); fault != (api.Fault{}) || !alike(back, p) {
		t.Errorf("Compile(%q) = %+v, %v, want %+v", text, back, fault, p)
	}
	if !alike(p, before) {
		t.Errorf("%q is changed: %+v, was %+v", s, p, before)
	}
}

// refuse tells of p that should not be good.
func refuse(t *testing.T, what any, p api.Pattern) {
	t.Helper()
	if Good(p) {
		t.Errorf("%v: Good(%+v), printed %q", what, p, Print(p))
	}
	if text := Print(p); text != "" {
		t.Errorf("%v: Print(%+v) = %q", what, p, text)
	}
}

// texts calls do with all texts of up to n of the parts.
func texts(parts []string, n int, do func(string)) {
	do("")
	if n == 0 {
		return
	}
	for _, one := range parts {
		texts(parts, n-1, func(s string) { do(one + s) })
	}
}

// TestExample: the chapter's example.
func TestExample(t *testing.T) {
	p := compiled(t, "###,##0")
	if text := Print(p); text != "#,##0" || !Good(p) {
		t.Errorf("Print = %q, Good = %v", text, Good(p))
	}
}

// TestPrintTable: what each text is printed as, and that is printed as itself.
func TestPrintTable(t *testing.T) {
	for s, want := range map[string]string{
		// Number parts: the least # that there have to be.
		"0": "0", "#": "#", "###": "#", "##0": "0", "000": "000", "#.#": ".#", "##.00#": ".00#", "#0.#": "0.#",
		"#,#": "#,#", "####,#": "#,#", "0,0": "0,0", "#,#,#": "#,#", "0,000,0.0": "0,000,0.0", "#,##,##0": "#,##,##0", "##,##,##,##0.0": "#,##,##0.0",
		"####,##,##0": "#,##,##0", "#,#,##0": "#,#,##0", "00,00,0": "00,00,0", "#@": "@", "##@##": "@##", "#,@@#": "#,@@#", "###,#@#": "#,#@#", "##,@": "#,@",
		"0.25": "0.25", "#0.25": "0.25", "#,000.05": "#,000.05", "5": "5", "##10": "10", ".5": ".5", "0,005": "0,005",
		"0E0": "0E0", "#E0": "#E0", "##0.##E+000": "##0.##E+000", "@@#E0": "@@#E0", ".0E0": ".0E0", "##.#E00": "##.#E00",
		// Affixes: quotes about what needs them alone.
		"'a'0": "a0", "'a''b'0": "a''b0", "a''0": "a''0", "'a'''0": "a''0", "'#''a'0": "'#'''a0", "-0-": "-0-", "'-'0'-'": "'-'0'-'", "'-0%'0": "'-0%'0",
		"E0": "'E'0", "0E0E": "0E0'E'", "0E0+": "0E0+", "e0": "e0", "+\u00a4\u20300": "+\u00a4\u20300", "0'+\u00a4\u2030%'": "0'+\u00a4\u2030%'",
		"\u20ac0 \U0001f600": "\u20ac0 \U0001f600", "\x000\uffff": "\x000\uffff", "''0": "''0", "';'0;0'*'": "';'0;0'*'", "0''''": "0''''", "'5'0'.'": "'5'0'.'",
		// Second halves: their numbers count for nothing.
		"0;0": "0;0", "0;#,##0.00": "0;0", "#;(#)": "#;(0)", "0;-0": "0;-0", "a0b;-a0b": "a0b;-a0b", "#,##0.00;(#)": "#,##0.00;(0)", "0;@@#E+00x": "0;0x", "0;E0E0E": "0;'E'0'E'",
		"0%;(0'%')": "0%;(0'%')", "%0;0": "%0;0", "0;'a;b'.5": "0;a';'b0", "0;''0''": "0;''0''",
		// Padding: at its place, as it is, and as many # as the first half had characters.
		"*x0": "*x0", "*x#,##0": "*x#,##0", "*x##,##0": "*x##,##0", "*x#,###,##0": "*x#####,##0", "*x#,#,##0": "*x#,#,##0", "*x#,#,#,##0": "*x###,#,##0",
		"a*x0": "a*x0", "a*x##0b": "a*x##0b", "0*x": "0*x", "##0*xa": "##0*xa", "0*'x'abc": "0*xabc", "a0b*x": "a0b*x", "a#0bc*x": "a#0bc*x",
		"*x###": "*x###", "*x##.#": "*x##.#", "*x.#": "*x.#", "*x##@@#": "*x##@@#", "*x#,#,@": "*x###,@", "*x##0.#E0": "*x##0.#E0", "@@E0*x%": "@@E0*x%", "*x##10": "*x##10",
		"*''0": "*''0", "*'''a'0": "*''a0", "*'''#'0": "*'''#'0", "*''''0": "*''''0", "a*''0": "a*''0", "0*''": "0*''", "0*'''#'": "0*'''#'", "0*'''''#'": "0*'''''#'", "0'#'*''": "0'#'*''", "0*''''": "0*''''", "0''*''": "0''*''",
		"**0": "**0", "*;0": "*;0", "*;0;0": "*;0;0", "0*;;0": "0*;;0", "*'*'0": "**0", "*0#": "*0#", "*##": "*##", "*-0": "*-0", "*%0": "*%0", "*E0": "*E0", "0*E": "0*E", "0*.": "0*.", "*,0": "*,0", "a*'#'0": "a*#0", "*\u20ac##0": "*\u20ac##0", "* 0": "* 0",
		"*x##0;longer0longer": "*x##0;longer0longer", "a*x#,##0;(@@)": "a*x#,##0;(0)", "#,##0a*x;(#,##0)": "#,##0a*x;(0)", "\u20ac*x##0;\u20ac-0": "\u20ac*x##0;\u20ac-0",
		"'#'*x##0": "'#'*x##0", "*x'#'##0'#'": "*x'#'##0'#'", "0*xE": "0*x'E'",
	} {
		p := compiled(t, s)
		if text := Print(p); text != want || !Good(p) {
			t.Errorf("Print of %q = %q, want %q, Good = %v", s, text, want, Good(p))
		}
		hold(t, s, p)
		again := compiled(t, want)
		if text := Print(again); text != want || !alike(again, p) {
			t.Errorf("Print of %q = %q of %+v, want itself of %+v", want, text, again, p)
		}
	}
}

// TestPrintWhole: what is written of a pattern that is told field by field.
func TestPrintWhole(t *testing.T) {
	p := api.Pattern{
		Prefix: []api.Item{lit('$'), lit('E')}, Suffix: []api.Item{sign(4), lit('\'')}, HasNeg: true, NegPrefix: []api.Item{lit('-'), sign(2)}, NegSuffix: lits(";"),
		MinInt: 2, MinFrac: 1, MaxFrac: 3, Primary: 3, Secondary: 2, PadAt: api.AfterSuffix, Pad: '\'', Width: 17,
	}
	if text := Print(p); text != "$'E'##,##,#00.0##%''*'';'-'-0';'" || !Good(p) {
		t.Errorf("Print = %q, Good = %v", text, Good(p))
	}
	p = api.Pattern{MinInt: 1, MaxInt: 3, MaxFrac: 2, Sci: true, MinExp: 2, PlusExp: true, NegPrefix: []api.Item{sign(2)}}
	if text := Print(p); text != "##0.##E+00" || !Good(p) {
		t.Errorf("Print = %q, Good = %v", text, Good(p))
	}
	p = api.Pattern{MinSig: 2, MaxSig: 4, PadAt: api.BeforePrefix, Pad: 0, Width: 6, Suffix: lits("a"), NegPrefix: []api.Item{sign(2)}, NegSuffix: lits("a")}
	if text := Print(p); text != "*\x00#@@##a" || !Good(p) {
		t.Errorf("Print = %q, Good = %v", text, Good(p))
	}
	p = api.Pattern{MinInt: 1, MinFrac: 2, MaxFrac: 2, Inc: "25", NegPrefix: []api.Item{sign(2)}}
	if text := Print(p); text != "0.25" || !Good(p) {
		t.Errorf("Print = %q, Good = %v", text, Good(p))
	}
}

// TestGoodTable: what no text says, each time in one thing that differs from what some text does.
func TestGoodTable(t *testing.T) {
	type turn = func(p *api.Pattern)
	for s, turns := range map[string][]turn{
		"0": {
			func(p *api.Pattern) { p.NegPrefix = nil },
			func(p *api.Pattern) { p.NegPrefix = []api.Item{sign(3)} },
			func(p *api.Pattern) { p.NegPrefix = lits("-") },
			func(p *api.Pattern) { p.NegPrefix = []api.Item{sign(2), sign(2)} },
			func(p *api.Pattern) { p.NegSuffix = lits("a") },
			func(p *api.Pattern) { p.Prefix = lits("a") },
			func(p *api.Pattern) { p.Suffix = lits("a") },
			func(p *api.Pattern) { p.Prefix, p.NegPrefix = []api.Item{{}}, []api.Item{sign(2), {}} },
			func(p *api.Pattern) { p.Prefix, p.NegPrefix = []api.Item{sign(7)}, []api.Item{sign(2), sign(7)} },
			func(p *api.Pattern) { p.NegPrefix = []api.Item{{Kind: 2, R: '-'}} },
			func(p *api.Pattern) {
				p.HasNeg, p.NegPrefix, p.NegSuffix = true, []api.Item{sign(4)}, []api.Item{sign(5)}
			},
			func(p *api.Pattern) { p.HasNeg, p.NegPrefix = true, []api.Item{{Kind: 4, R: '%'}} },
			func(p *api.Pattern) { p.HasNeg, p.NegSuffix = true, []api.Item{lit(0xd800)} },
			func(p *api.Pattern) { p.MaxInt = 1 },
			func(p *api.Pattern) { p.MinFrac = 1 },
			func(p *api.Pattern) { p.MinSig = 1 },
			func(p *api.Pattern) { p.MaxSig = 1 },
			func(p *api.Pattern) { p.MinSig, p.MaxSig = 1, 1 },
			func(p *api.Pattern) { p.Primary = 3 },
			func(p *api.Pattern) { p.Secondary = 3 },
			func(p *api.Pattern) { p.Primary, p.Secondary = -1, -1 },
			func(p *api.Pattern) { p.Inc = "0" },
			func(p *api.Pattern) { p.Inc = "05" },
			func(p *api.Pattern) { p.Inc = "15" },
			func(p *api.Pattern) { p.Inc = "x" },
			func(p *api.Pattern) { p.Inc = "\u0665" },
			func(p *api.Pattern) { p.Sci = true },
			func(p *api.Pattern) { p.PlusExp = true },
			func(p *api.Pattern) { p.MinExp = 1 },
			func(p *api.Pattern) { p.Sci, p.MinExp = true, 1 },
			func(p *api.Pattern) { p.Pad = 'x' },
			func(p *api.Pattern) { p.Pad = 'x'; p.Width = 1 },
			func(p *api.Pattern) { p.Width = 1 },
			func(p *api.Pattern) { p.PadAt = 1 },
			func(p *api.Pattern) { p.PadAt, p.Pad, p.Width = 2, 'x', 1 },
			func(p *api.Pattern) { p.PadAt, p.Pad, p.Width = 4, 'x', 1 },
			func(p *api.Pattern) { p.PadAt, p.Pad, p.Width = 5, 'x', 1 },
			func(p *api.Pattern) { p.PadAt, p.Pad, p.Width = -1, 'x', 1 },
			func(p *api.Pattern) { p.PadAt, p.Pad, p.Width = 5, 'x', 0 },
		},
		"#,##0.00": {
			func(p *api.Pattern) { p.MinFrac = 3 },
			func(p *api.Pattern) { p.MinFrac = 41; p.MaxFrac = 41 },
			func(p *api.Pattern) { p.MinInt = 41 },
			func(p *api.Pattern) { p.MaxFrac = 1 },
			func(p *api.Pattern) { p.Primary = 0 },
			func(p *api.Pattern) { p.Secondary = 0 },
			func(p *api.Pattern) { p.Primary, p.Secondary = 41, 41 },
			func(p *api.Pattern) { p.Inc = "1005" },
			func(p *api.Pattern) { p.Sci, p.MinExp, p.MaxInt = true, 1, 4 },
		},
		"*xa0b": {
			func(p *api.Pattern) { p.PadAt = 0 },
			func(p *api.Pattern) { p.PadAt, p.Pad = 0, 0 },
			func(p *api.Pattern) { p.Pad = 0xd800 },
			func(p *api.Pattern) { p.Pad = -1 },
			func(p *api.Pattern) { p.Pad = 0x110000 },
			func(p *api.Pattern) { p.Width = 2 },
			func(p *api.Pattern) { p.Width = 0 },
			func(p *api.Pattern) { p.Width = -3 },
			func(p *api.Pattern) { p.Width = 399 },
		},
		"a*x#,##0.#": {
			func(p *api.Pattern) { p.PadAt = 4 },
			func(p *api.Pattern) { p.Width = 7 },
		},
		"#,##0*xa": {
			func(p *api.Pattern) { p.PadAt = 2 },
		},
		"*x##0.#E0": {
			func(p *api.Pattern) { p.Width = 8 },
			func(p *api.Pattern) { p.Width = 6 },
			func(p *api.Pattern) { p.MinExp = 0 },
			func(p *api.Pattern) { p.MinExp = 10 },
			func(p *api.Pattern) { p.PlusExp = true },
			func(p *api.Pattern) { p.MaxInt = 0 },
			func(p *api.Pattern) { p.Inc = "1" },
		},
		"*x#,##,@@#": {
			func(p *api.Pattern) { p.Width = 7 },
			func(p *api.Pattern) { p.MaxSig = 1 },
			func(p *api.Pattern) { p.MinInt = 1 },
			func(p *api.Pattern) { p.MaxFrac = 1 },
		},
		"0;(0)": {
			func(p *api.Pattern) { p.HasNeg = false },
			func(p *api.Pattern) { p.NegPrefix = lits(strings.Repeat("(", 41)) },
			func(p *api.Pattern) { p.NegSuffix = lits(strings.Repeat("(", 41)) },
			func(p *api.Pattern) { p.Prefix, p.NegSuffix = []api.Item{sign(5)}, []api.Item{sign(4)} },
		},
	} {
		for i, turn := range turns {
			p := apart(compiled(t, s))
			turn(&p)
			refuse(t, fmt.Sprint(s, " ", i), p)
		}
	}
	refuse(t, "empty", api.Pattern{})
}

// turned are patterns that differ from p in one field, or two that go together.
func turned(p api.Pattern) []api.Pattern {
	var out []api.Pattern
	add := func(turn func(q *api.Pattern)) {
		q := apart(p)
		turn(&q)
		out = append(out, q)
	}
	counts := func(q *api.Pattern) []*int {
		return []*int{&q.MinInt, &q.MaxInt, &q.MinFrac, &q.MaxFrac, &q.MinSig, &q.MaxSig, &q.Primary, &q.Secondary, &q.MinExp, &q.PadAt, &q.Width}
	}
	for i := range counts(&p) {
		for _, by := range []int{-2, -1, 1, 2} {
			add(func(q *api.Pattern) { *counts(q)[i] += by })
		}
		add(func(q *api.Pattern) { *counts(q)[i] = 0 })
	}
	for _, inc := range []string{"", "0", "5", "05", "50", "a", p.Inc + "0", "0" + p.Inc} {
		add(func(q *api.Pattern) { q.Inc = inc })
	}
	for _, pad := range []rune{0, 'x', 'a', '*', '\'', -1, 0xd800} {
		add(func(q *api.Pattern) { q.Pad = pad })
	}
	add(func(q *api.Pattern) { q.HasNeg = !q.HasNeg })
	add(func(q *api.Pattern) { q.Sci = !q.Sci })
	add(func(q *api.Pattern) { q.PlusExp = !q.PlusExp })
	add(func(q *api.Pattern) { q.MinFrac++; q.MaxFrac++ })
	add(func(q *api.Pattern) { q.Primary++; q.Secondary++ })
	for i, items := range lists(&p) {
		for _, one := range []api.Item{lit('a'), lit('#'), sign(2), sign(4), {Kind: 2, R: '-'}, {R: 'a'}, lit(0xdfff)} {
			add(func(q *api.Pattern) { *lists(q)[i] = append(*lists(q)[i], one) })
			add(func(q *api.Pattern) { *lists(q)[i] = append([]api.Item{one}, *lists(q)[i]...) })
		}
		if len(*items) > 0 {
			add(func(q *api.Pattern) { *lists(q)[i] = (*lists(q)[i])[1:] })
			add(func(q *api.Pattern) { *lists(q)[i] = (*lists(q)[i])[:len(*items)-1] })
			add(func(q *api.Pattern) { (*lists(q)[i])[0].R ^= 1 })
		}
	}
	for _, one := range []api.Item{lit('a'), sign(2), sign(4)} {
		add(func(q *api.Pattern) { q.Suffix = append(q.Suffix, one); q.NegSuffix = append(q.NegSuffix, one) })
		add(func(q *api.Pattern) {
			q.Suffix, q.NegSuffix, q.Width = append(q.Suffix, one), append(q.NegSuffix, one), q.Width+1
		})
	}
	return out
}

// sets are sets of parts, and how many of them a text is made of.
var sets = []struct {
	n     int
	parts []string
}{
	{6, []string{"#", "0", "5", "@", ",", "."}},
	{6, []string{"#", "0", "@", ".", "E", "+"}},
	{6, []string{"*", "0", "#", "a", ";", "''"}},
	{7, []string{"*", "0", "#", ",", "@"}},
	{5, []string{"0", "%", "-", "'0'", "'E'", "E", ";", "*"}},
	{6, []string{"#", "0", "a", "*", "x", ";"}},
}

// TestAll: all short texts of several sets of parts. All texts that say the same are printed as one, which has as many tokens as the shortest of them, or fewer; and what differs a bit from what a text says is good, if it is printed so that Compile makes it, and if it isn't good, no short text says it.
func TestAll(t *testing.T) {
	said := map[string]bool{}
	good, bad := 0, 0
	var all []api.Pattern
	for _, set := range sets {
		texts(set.parts, set.n, func(s string) {
			p, fault := pattern.Compile(s)
			if fault.E != api.OK {
				return
			}
			hold(t, s, p)
			before, _ := token.Scan(s)
			after, _ := token.Scan(Print(p))
			if len(after) > len(before) {
				t.Errorf("Print of %q = %q, which is longer", s, Print(p))
			}
			if key := fmt.Sprintf("%+v", p); !said[key] {
				said[key] = true
				all = append(all, p)
			}
		})
	}
	for i, p := range all {
		if i%19 > 0 {
			continue
		}
		for _, q := range turned(p) {
			text, is := Print(q), Good(q)
			back, fault := pattern.Compile(text)
			switch {
			case is && (fault.E != api.OK || !alike(back, q)):
				t.Errorf("Good(%+v), printed %q", q, text)
			case is:
				good++
			case said[fmt.Sprintf("%+v", q)]:
				t.Errorf("Good(%+v) = false, but there is such a text", q)
			default:
				bad++
			}
		}
	}
	if len(all) < 15000 || good < 20000 || bad < 80000 {
		t.Errorf("only %d patterns, %d good ones beside them, %d others", len(all), good, bad)
	}
}

// TestRandom: long texts, and what they say, a bit changed.
func TestRandom(t *testing.T) {
	source := rand.New(rand.NewSource(17))
	pick := func(list ...string) string { return list[source.Intn(len(list))] }
	some := func(most int, list ...string) string {
		s := ""
		for range source.Intn(most + 1) {
			s += pick(list...)
		}
		return s
	}
	about := func() string {
		return some([]int{0, 3, 3, 45}[source.Intn(4)], "a", "-", "+", "\u00a4", "'0'", "'E'", "E", " ", "\u20ac", "''", "';'", "\U0001f600", "%")
	}
	pad := func(odds int) string {
		if source.Intn(odds) > 0 {
			return ""
		}
		return "*" + pick("x", "'x'", "0", "*", ";", "''", "%", "\u20ac", "#", "'#'")
	}
	part := func() string {
		switch source.Intn(3) {
		case 0:
			return some(60, "#") + some(8, "#,#", "##") + some(5, "0") + pick(",", ",#", "") + some(40, "0") + pick("", ".") + some(20, "0") + some(20, "#")
		case 1:
			return some(30, "#") + pick(",", "") + some(20, "@") + some(20, "#") + pick("", "", "E0", "E+000")
		}
		return pick("0", "#", "#,##0.00", "#,##,##0.###", "##0.0#E+00", "0E0", ".5", "000", "@E0", "12.34", "#,##5", "#,#,#,#,#")
	}
	good := 0
	for range 16000 {
		s := pad(8) + about() + pad(8) + part() + pad(8) + about() + pad(8)
		if source.Intn(2) == 0 {
			s += ";" + about() + pick("0", "@", "#,##0.0") + about()
		}
		p, fault := pattern.Compile(s)
		if fault.E != api.OK {
			continue
		}
		good++
		hold(t, s, p)
		if good%40 > 0 {
			continue
		}
		for _, q := range turned(p) {
			text := Print(q)
			if back, fault := pattern.Compile(text); Good(q) != (fault.E == api.OK) || Good(q) && (!alike(back, q) || text != written(q)) {
				t.Errorf("Good(%+v) = %v, printed %q", q, Good(q), text)
			}
		}
	}
	if good < 5000 {
		t.Errorf("only %d are patterns", good)
	}
}

// TestPads: code points of all sorts as padding, at each place: as they are, and a ' twice.
func TestPads(t *testing.T) {
	forms := []string{"*#0", "a'#'*##0b", "##0*'#'ab", "''0'a'*-;-0", "*''0", "0*''''"}
	places := []int{1, 2, 3, 4, 1, 3}
	for r := rune(-2); r <= 0x110002; r++ {
		if r > 0x2100 && r%0x101 > 0 && (r < 0xd7f0 || r > 0xe010) && r < 0x10fff0 && r&0xfff0 != 0xfff0 {
			continue
		}
		for i, form := range forms {
			p := compiled(t, form)
			p.Pad = r
			if r < 0 || r >= 0xd800 && r <= 0xdfff || r > 0x10ffff {
				refuse(t, r, p)
				continue
			}
			if !Good(p) || p.PadAt != places[i] || Print(p) != written(p) {
				t.Errorf("%x: Print(%+v) = %q, Good = %v", r, p, Print(p), Good(p))
			}
		}
	}
	for _, r := range noPoints {
		p := compiled(t, "*x0")
		p.Pad = r
		refuse(t, r, p)
		for i := range 4 {
			p := compiled(t, "a0a;a0a")
			*lists(&p)[i] = []api.Item{lit('a'), lit(r)}
			refuse(t, r, p)
		}
	}
}

// TestPlaces: where padding may stand, by which affixes are empty: the first place that holds is told.
func TestPlaces(t *testing.T) {
	for _, c := range []struct {
		prefix, suffix string
		places         map[int]string
	}{
		{"", "", map[int]string{1: "*x##0", 3: "##0*x"}},
		{"a", "", map[int]string{1: "*xa##0", 2: "a*x##0", 3: "a##0*x"}},
		{"", "b", map[int]string{1: "*x##0b", 3: "##0*xb", 4: "##0b*x"}},
		{"a", "b", map[int]string{1: "*xa##0b", 2: "a*x##0b", 3: "a##0*xb", 4: "a##0b*x"}},
	} {
		for place := -5; place < 10; place++ {
			p := api.Pattern{MinInt: 1, Prefix: lits(c.prefix), Suffix: lits(c.suffix), HasNeg: true, PadAt: place, Pad: 'x', Width: 3 + len(c.prefix+c.suffix)}
			want := c.places[place]
			if want == "" {
				refuse(t, place, p)
			} else if text := Print(p); text != want+";0" || !Good(p) {
				t.Errorf("Print(%+v) = %q, Good = %v", p, text, Good(p))
			}
		}
	}
}

// TestWidths: each width that a text can have with its number's fewest characters or more, and none else.
func TestWidths(t *testing.T) {
	for s, least := range map[string]int{"*x0": 1, "*x#": 1, "*x.#": 2, "*x#,##0.00": 8, "*x#,##,##0": 8, "*xab@@#c": 6, "'#'*x00": 3, "0*x%": 2, "0%*x;-0": 2, "*x#,##5": 5} {
		for width := -3; width < 450; width++ {
			p := compiled(t, s)
			p.Width = width
			most := 398
			if p.HasNeg {
				most = 395
			}
			if width < least || width > most {
				refuse(t, s, p)
				continue
			}
			text := Print(p)
			if more := strings.Count(text, "#") - strings.Count(s, "#"); !Good(p) || text != written(p) || more != width-least {
				t.Errorf("%q with Width %d: Print = %q, Good = %v", s, width, text, Good(p))
			}
		}
	}
	// Of Sci there is one alone.
	for s, only := range map[string]int{"*x0E0": 3, "*x##0.#E+00": 9, "@@#E0*xab": 7} {
		for width := -3; width < 450; width++ {
			p := compiled(t, s)
			p.Width = width
			if good := Good(p); good != (width == only) || good != (Print(p) == s) {
				t.Errorf("%q with Width %d: Good = %v, Print = %q", s, width, good, Print(p))
			}
		}
	}
}

// TestLimits: 40 items an affix, but 41 where there is a minus alone ahead of the first half's, and 400 tokens in all.
func TestLimits(t *testing.T) {
	for _, one := range []api.Item{lit('a'), lit('#'), lit('\''), sign(2), sign(4), lit(0x1f600)} {
		for n := 38; n < 43; n++ {
			row := slices.Repeat([]api.Item{one}, n)
			for i := range 4 {
				p := api.Pattern{MinInt: 1, HasNeg: true}
				*lists(&p)[i] = row
				if n > 40 {
					refuse(t, n, p)
				} else if !Good(p) || Print(p) != written(p) {
					t.Errorf("Print(%+v) = %q, Good = %v", p, Print(p), Good(p))
				}
			}
			p := api.Pattern{MinInt: 1, Prefix: row, Suffix: row, NegPrefix: append([]api.Item{sign(2)}, row...), NegSuffix: row}
			if n > 40 {
				refuse(t, n, p)
			} else if !Good(p) || Print(p) != written(p) {
				t.Errorf("Print(%+v) = %q, Good = %v", p, Print(p), Good(p))
			}
		}
	}
	a40, n40 := strings.Repeat("a", 40), strings.Repeat("0", 40)
	widest := a40 + "*x" + strings.Repeat("#", 198) + n40 + a40
	for _, s := range []string{
		strings.Repeat("#", 399) + "0", "*x" + strings.Repeat("#", 398), strings.Repeat("#,", 199) + "##",
		a40 + "#," + strings.Repeat("#", 39) + "," + n40 + "." + n40 + "a" + ";" + a40 + "0" + a40,
		widest + ";" + a40[:38] + "0" + a40,
	} {
		tokens, _ := token.Scan(s)
		p := compiled(t, s)
		hold(t, s, p)
		if strings.Contains(s, "*") && (len(tokens) != 400 || Print(p) != s) {
			t.Errorf("Print of %q, which has %d tokens, = %q", s, len(tokens), Print(p))
		}
		if p.PadAt != 0 {
			p.Width++
			refuse(t, s, p)
		}
	}
	p := compiled(t, widest+";"+a40[:38]+"0"+a40)
	p.NegPrefix = append(p.NegPrefix, lit('a'))
	refuse(t, "401 tokens", p)
	// Counts of digits: 40 of each.
	for _, s := range []string{n40, "." + n40, "." + strings.Repeat("#", 40), strings.Repeat("@", 40), "@" + strings.Repeat("#", 39), "#," + n40, "#," + strings.Repeat("#", 40) + "," + n40[:39], strings.Repeat("5", 40), "5" + n40[:20] + "." + n40[:19], n40 + "." + n40, strings.Repeat("#", 40) + "E000000000", "0E+000000000"} {
		hold(t, s, compiled(t, s))
	}
}

// TestEnds: fields with numbers that are too much, or too little, and texts and lists that are too long.
func TestEnds(t *testing.T) {
	fields := func(p *api.Pattern) []*int {
		return []*int{&p.MinInt, &p.MaxInt, &p.MinFrac, &p.MaxFrac, &p.MinSig, &p.MaxSig, &p.Primary, &p.Secondary, &p.MinExp, &p.PadAt}
	}
	for _, s := range []string{"0", "#,##0.00", "*x#,##0", "@@#", "##0.#E0", "a*x0;b0", "0.25"} {
		base := compiled(t, s)
		for i := range fields(&base) {
			for _, n := range ends {
				p := base
				*fields(&p)[i] = n
				refuse(t, s, p)
				p.Width = n
				refuse(t, s, p)
				for j := range fields(&base) {
					q := p
					*fields(&q)[j] = n
					refuse(t, s, q)
				}
			}
		}
	}
	for _, n := range []int{math.MinInt, math.MinInt + 1, math.MinInt + 2, math.MinInt32, math.MaxInt32 - 1, math.MaxInt32, math.MaxInt32 + 1, 1<<32 + 1, math.MaxInt - 1, math.MaxInt} {
		for _, s := range []string{"*x0", "a*x#,##0b", "*x0E0"} {
			p := compiled(t, s)
			p.Width = n
			refuse(t, s, p)
		}
		p := compiled(t, "0")
		p.Width = n
		refuse(t, n, p)
	}
	const n = 1 << 18
	for i := range 4 {
		for _, s := range []string{"0", "*x0", "0;0"} {
			p := compiled(t, s)
			*lists(&p)[i] = slices.Repeat([]api.Item{lit('#'), lit('\'')}, n)
			refuse(t, "long affix", p)
		}
	}
	p := compiled(t, "0.5")
	p.Inc = strings.Repeat("5", n)
	refuse(t, "long step", p)
}

// TestLists: nil and empty lists are the same, and spare room counts for nothing and stays.
func TestLists(t *testing.T) {
	for _, s := range []string{"0", "0;0", "a0", "0a;0", "*x0", "%0;(0)"} {
		p := compiled(t, s)
		want := Print(p)
		q := apart(p)
		for _, items := range lists(&q) {
			room := append(slices.Clone(*items), lit('#'), sign(99))
			*items = room[:len(room)-2]
		}
		if text := Print(q); text != want || !Good(q) {
			t.Errorf("%q with empty lists: Print = %q, want %q", s, text, want)
		}
		for _, items := range lists(&q) {
			if room := (*items)[:len(*items)+2]; room[len(room)-2] != lit('#') || room[len(room)-1] != sign(99) {
				t.Errorf("%q: spare room is changed: %v", s, room)
			}
		}
		if !alike(p, q) {
			t.Errorf("%q is changed: %+v, was %+v", s, q, p)
		}
		for _, items := range lists(&q) {
			if len(*items) == 0 {
				*items = nil
			}
		}
		if text := Print(q); text != want || !Good(q) {
			t.Errorf("%q with nil lists: Print = %q, want %q", s, text, want)
		}
	}
	// Lists that share memory are lists like others.
	row := lits("ab")
	p := api.Pattern{MinInt: 1, Prefix: row, Suffix: row[:1], HasNeg: true, NegPrefix: row[1:], NegSuffix: row}
	if text := Print(p); text != "ab0a;b0ab" || !Good(p) {
		t.Errorf("Print = %q, Good = %v", text, Good(p))
	}
}
