package affix

import (
	"math"
	"slices"
	"strings"
	"testing"
	"unicode/utf8"

	"figurehead/api"
	"figurehead/token"
)

// kinds are the signs and their items' kinds, written out once more.
var kinds = map[rune]int{'-': 2, '+': 3, '%': 4, 0x2030: 5, 0xa4: 6}

// allMarks are the marks, written out once more.
var allMarks = []rune{'#', '0', '1', '2', '3', '4', '5', '6', '7', '8', '9', '@', ',', '.', ';', '*'}

// points are code points that need no quotes: at all ends of what takes more bytes, beside those that need quotes, and alike to them.
var points = []rune{
	0, 1, 9, '\n', ' ', '!', '"', '$', '&', '(', ')', '/', ':', '<', '=', '?', 'A', 'D', 'F', 'e', 'x', '_', '`', 0x7e, 0x7f,
	0x80, 0xa3, 0xa5, 0xad, 0xb7, 0x394, 0x660, 0x6f0, 0x7ff, 0x800, 0x2010, 0x2018, 0x2019, 0x202f, 0x2031, 0x20ac, 0x2212,
	0xd7ff, 0xe000, 0xfe6a, 0xff05, 0xff0b, 0xff10, 0xfffc, 0xfffd, 0xfffe, 0xffff, 0x10000, 0x1002d, 0x1f600, 0x10ffff,
}

// none are no code points, with those whose lowest bits are a sign's, a mark's, an E's or a quote's.
var none = []rune{
	-1, -'-', -'#', -'\'', -'E', math.MinInt32, math.MinInt32 + '-', math.MinInt32 + '0', 0xd800, 0xd82d, 0xdaa4, 0xdc23, 0xdfff,
	0x110000, 0x11002d, 0x200045, 0x1000000 + '%', 0x1000000 + '\'', math.MaxInt32,
}

// lit is an item Lit.
func lit(r rune) api.Item { return api.Item{Kind: 1, R: r} }

// sign is a sign's item.
func sign(kind int) api.Item { return api.Item{Kind: kind} }

// p is a plain token.
func p(r rune, at int) api.Token { return api.Token{R: r, At: at} }

// q is a quoted token.
func q(r rune, at int) api.Token { return api.Token{R: r, Quoted: true, At: at} }

// needs is what the chapter's words say of r.
func needs(r rune) bool {
	return kinds[r] != 0 || slices.Contains(allMarks, r) || r == 'E' || r == '\''
}

// read is what the chapter's words make of the tokens.
func read(list []api.Token) ([]api.Item, api.Fault) {
	var items []api.Item
	for _, t := range list {
		switch {
		case t.Quoted:
			items = append(items, lit(t.R))
		case slices.Contains(allMarks, t.R):
			return nil, api.Fault{E: api.ErrNumber, At: t.At}
		case kinds[t.R] != 0:
			items = append(items, sign(kinds[t.R]))
		default:
			items = append(items, lit(t.R))
		}
	}
	if len(items) > 40 {
		return nil, api.Fault{E: api.ErrLong}
	}
	return items, api.Fault{}
}

// hold holds Items of the list against the chapter's words.
func hold(t *testing.T, list []api.Token) {
	t.Helper()
	want, wantFault := read(list)
	if items, fault := Items(list); !slices.Equal(items, want) || fault != wantFault {
		t.Errorf("Items(%v) = %v, %v, want %v, %v", list, items, fault, want, wantFault)
	}
}

// holdBack holds Tokens of items that may be against the chapter's words, Print against chapter 13's of these, and what Items makes of both against the items.
func holdBack(t *testing.T, items []api.Item) {
	t.Helper()
	var want []api.Token
	for _, one := range items {
		r := one.R
		for sign, kind := range kinds {
			if one.Kind == kind {
				r = sign
			}
		}
		want = append(want, api.Token{R: r, Quoted: one.Kind == 1 && needs(r)})
	}
	list := Tokens(items)
	if !slices.Equal(list, want) {
		t.Errorf("Tokens(%v) = %v, want %v", items, list, want)
	}
	text := Print(items)
	if text != token.Print(want) {
		t.Errorf("Print(%v) = %q, want %q", items, text, token.Print(want))
	}
	if len(items) > 40 {
		return
	}
	scanned, fault := token.Scan(text)
	if fault != (api.Fault{}) {
		t.Errorf("Scan(%q) = %v", text, fault)
	}
	for _, told := range [][]api.Token{list, scanned} {
		if back, fault := Items(told); !slices.Equal(back, items) || fault != (api.Fault{}) {
			t.Errorf("Items(%v) = %v, %v, want %v", told, back, fault, items)
		}
	}
}

// holdNone holds that items of which one may not be are neither told nor printed.
func holdNone(t *testing.T, items []api.Item) {
	t.Helper()
	if list := Tokens(items); len(list) != 0 {
		t.Errorf("Tokens(%v) = %v, want nothing", items, list)
	}
	if text := Print(items); text != "" {
		t.Errorf("Print(%v) = %q, want nothing", items, text)
	}
}

// rows calls do with all rows of n of the parts.
func rows[T any](parts []T, n int, do func([]T)) {
	row := make([]T, n)
	var fill func(at int)
	fill = func(at int) {
		if at == n {
			do(row)
			return
		}
		for _, row[at] = range parts {
			fill(at + 1)
		}
	}
	fill(0)
}

// TestExample: the chapter's example, and back.
func TestExample(t *testing.T) {
	items := []api.Item{lit('a'), sign(api.Minus), lit('-')}
	if text := Print(items); text != "a-'-'" {
		t.Errorf("Print = %q", text)
	}
	if list := Tokens(items); !slices.Equal(list, []api.Token{p('a', 0), p('-', 0), q('-', 0)}) {
		t.Errorf("Tokens = %v", list)
	}
	list, _ := token.Scan("a-'-'")
	if back, fault := Items(list); !slices.Equal(back, items) || fault != (api.Fault{}) {
		t.Errorf("Items = %v, %v", back, fault)
	}
}

// TestNeeds: all code points, what lies about them, and numbers that are alike to those that need quotes.
func TestNeeds(t *testing.T) {
	count := 0
	for r := rune(-0x1000); r <= 0x120000; r++ {
		if Needs(r) != needs(r) {
			t.Errorf("Needs(%x) = %v", r, Needs(r))
		}
		if Needs(r) {
			count++
		}
	}
	if count != 5+16+2 {
		t.Errorf("%d need quotes", count)
	}
	for _, r := range append(slices.Clone(none), points...) {
		if Needs(r) {
			t.Errorf("Needs(%x)", r)
		}
	}
}

func TestItemsTable(t *testing.T) {
	cases := []struct {
		s    string
		want []api.Item
	}{
		{"", nil},
		{"a", []api.Item{lit('a')}},
		{"'a'", []api.Item{lit('a')}},
		{"-+%\u2030\u00a4", []api.Item{sign(2), sign(3), sign(4), sign(5), sign(6)}},
		{"'-+%\u2030\u00a4'", []api.Item{lit('-'), lit('+'), lit('%'), lit(0x2030), lit(0xa4)}},
		{"'#0123456789@,.;*'", []api.Item{lit('#'), lit('0'), lit('1'), lit('2'), lit('3'), lit('4'), lit('5'), lit('6'), lit('7'), lit('8'), lit('9'), lit('@'), lit(','), lit('.'), lit(';'), lit('*')}},
		{"E'E'", []api.Item{lit('E'), lit('E')}},
		{"''", []api.Item{lit('\'')}},
		{"'-'''--''+", []api.Item{lit('-'), lit('\''), sign(2), sign(2), lit('\''), sign(3)}},
		{"- -'-'", []api.Item{sign(2), lit(' '), sign(2), lit('-')}},
		{"(%)", []api.Item{lit('('), sign(4), lit(')')}},
		{"%%", []api.Item{sign(4), sign(4)}},
		{"\u2212\uff05\uff0b\u20ac\u0660\uff10\u201a\u00b7", []api.Item{lit(0x2212), lit(0xff05), lit(0xff0b), lit(0x20ac), lit(0x660), lit(0xff10), lit(0x201a), lit(0xb7)}},
		{"\x00\ufffd\U0010ffff", []api.Item{lit(0), lit(0xfffd), lit(0x10ffff)}},
	}
	for _, c := range cases {
		list, scanned := token.Scan(c.s)
		if scanned.E != api.OK {
			t.Fatalf("Scan(%q) = %v", c.s, scanned)
		}
		if items, fault := Items(list); !slices.Equal(items, c.want) || fault != (api.Fault{}) {
			t.Errorf("Items of %q = %v, %v, want %v", c.s, items, fault, c.want)
		}
	}
}

// TestFaults: each fault, its place, and which of several is the first.
func TestFaults(t *testing.T) {
	type row struct {
		list []api.Token
		want api.Fault
	}
	long := slices.Repeat([]api.Token{p('a', 3)}, 41)
	cases := []row{
		{[]api.Token{p('#', 0)}, api.Fault{E: api.ErrNumber}},
		{[]api.Token{p('a', 0), p('#', 1), p('0', 2)}, api.Fault{E: api.ErrNumber, At: 1}},
		{[]api.Token{p(0x20ac, 0), q('#', 4), p(';', 6)}, api.Fault{E: api.ErrNumber, At: 6}},
		{[]api.Token{q('*', 9), p('*', 7), p(',', 5)}, api.Fault{E: api.ErrNumber, At: 7}},
		{[]api.Token{p('-', 1), p('E', 2), p('\'', 3), p('@', math.MaxInt)}, api.Fault{E: api.ErrNumber, At: math.MaxInt}},
		{[]api.Token{p(-1, 1), p('.', math.MinInt)}, api.Fault{E: api.ErrNumber, At: math.MinInt}},
		{long, api.Fault{E: api.ErrLong}},
		{append(slices.Clone(long), p('9', 50)), api.Fault{E: api.ErrNumber, At: 50}},
		{append(slices.Repeat(long, 9), q('9', 50), p(',', 60), p('0', 70)), api.Fault{E: api.ErrNumber, At: 60}},
		{append([]api.Token{p('1', 50)}, long...), api.Fault{E: api.ErrNumber, At: 50}},
	}
	for _, r := range allMarks {
		cases = append(cases, row{[]api.Token{p('-', 0), q(r, 2), p(r, 4), p('%', 5), p('#', 6)}, api.Fault{E: api.ErrNumber, At: 4}})
	}
	for _, c := range cases {
		if items, fault := Items(c.list); fault != c.want || len(items) != 0 {
			t.Errorf("Items(%v) = %v, %v, want %v alone", c.list, items, fault, c.want)
		}
	}
}

// TestLong: it is items that are counted, whatever sort they are; 40 may be.
func TestLong(t *testing.T) {
	for _, row := range [][]api.Token{{p('a', 7)}, {q('#', 7)}, {p('-', 7)}, {p(-1, 7)}, {q('\'', 7)}, {p('%', 1), q('%', 2), p(0x10ffff, 3)}} {
		for _, n := range []int{1, 2, 38, 39, 40, 41, 42, 80, 81, 400, 1000} {
			list := slices.Repeat(row, n)[:n]
			items, fault := Items(list)
			if n <= 40 && (len(items) != n || fault != (api.Fault{})) {
				t.Errorf("Items of %d %v = %v, %v", n, row, items, fault)
			}
			if n > 40 && (len(items) != 0 || fault != api.Fault{E: api.ErrLong}) {
				t.Errorf("Items of %d %v = %v, %v, want ErrLong alone", n, row, items, fault)
			}
			hold(t, list)
		}
	}
}

// TestItemsAll: all rows of a few tokens, and of two of all sorts.
func TestItemsAll(t *testing.T) {
	few := []api.Token{p('a', 10), q('a', 11), p('-', 12), q('-', 13), p('#', 14), q('#', 15), p(';', 16), p(0xa4, 17), p('E', 18), q('\'', 19)}
	for n := range 6 {
		rows(few, n, func(row []api.Token) { hold(t, row) })
	}
	var all []api.Token
	for i, r := range slices.Concat([]rune("-+%\u2030\u00a4E'"), allMarks, points, none) {
		all = append(all, p(r, 2*i), q(r, 2*i+1))
	}
	rows(all, 2, func(row []api.Token) { hold(t, row) })
}

// TestPoints: each code point, plain, quoted, and as a Lit.
func TestPoints(t *testing.T) {
	for r := rune(0); r <= utf8.MaxRune; r++ {
		if !utf8.ValidRune(r) {
			continue
		}
		hold(t, []api.Token{p(r, 5)})
		hold(t, []api.Token{q(r, 5)})
		holdBack(t, []api.Item{lit(r), lit('a'), sign(3), lit(r)})
	}
}

func TestPrintTable(t *testing.T) {
	cases := []struct {
		items []api.Item
		want  string
	}{
		{nil, ""},
		{[]api.Item{}, ""},
		{[]api.Item{lit('a')}, "a"},
		{[]api.Item{sign(2), sign(3), sign(4), sign(5), sign(6)}, "-+%\u2030\u00a4"},
		{[]api.Item{lit('-'), lit('+'), lit('%'), lit(0x2030), lit(0xa4)}, "'-+%\u2030\u00a4'"},
		{[]api.Item{lit('#'), lit('0'), lit('9'), lit('@'), lit(','), lit('.'), lit(';'), lit('*')}, "'#09@,.;*'"},
		{[]api.Item{lit('E')}, "'E'"},
		{[]api.Item{lit('\'')}, "''"},
		{[]api.Item{lit('\''), lit('\'')}, "''''"},
		{[]api.Item{lit('\''), lit('E'), lit('\'')}, "'''E'''"},
		{[]api.Item{lit('\''), lit('e'), lit('\'')}, "''e''"},
		{[]api.Item{lit('-'), sign(2), lit('-'), lit('#'), lit(' '), lit('#')}, "'-'-'-#' '#'"},
		{[]api.Item{lit(0), lit(0xfffd), lit(0x10ffff), lit(0x20ac)}, "\x00\ufffd\U0010ffff\u20ac"},
	}
	for _, c := range cases {
		if text := Print(c.items); text != c.want {
			t.Errorf("Print(%v) = %q, want %q", c.items, text, c.want)
		}
		holdBack(t, c.items)
	}
}

// TestBack: all rows of a few items, of two of all sorts, and of more than Items may answer.
func TestBack(t *testing.T) {
	few := []api.Item{lit('a'), lit('\''), lit('-'), lit('E'), lit('#'), sign(2), sign(6)}
	for n := range 6 {
		rows(few, n, func(row []api.Item) { holdBack(t, row) })
	}
	var all []api.Item
	for kind := 2; kind <= 6; kind++ {
		all = append(all, sign(kind))
	}
	for _, r := range slices.Concat([]rune("-+%\u2030\u00a4E'"), allMarks, points) {
		all = append(all, lit(r))
	}
	rows(all, 2, func(row []api.Item) { holdBack(t, row) })
	for _, n := range []int{39, 40, 41, 400, 401, 1000} {
		holdBack(t, slices.Repeat(all, n)[:n])
		holdBack(t, slices.Repeat(few, n)[3:n+3])
	}
}

// TestNone: one item that may not be, wherever it stands, and nothing is answered.
func TestNone(t *testing.T) {
	var bad []api.Item
	for _, kind := range []int{math.MinInt, -5, -1, 0, 7, 8, 1 << 32, 1<<32 + 1, 1<<32 + 2, math.MaxInt} {
		for _, r := range []rune{0, 1, 'a', '-', -1, math.MaxInt32} {
			bad = append(bad, api.Item{Kind: kind, R: r})
		}
	}
	for sign, kind := range kinds {
		for _, r := range slices.Concat([]rune{sign, 1, '-', 'a', rune(kind)}, none) {
			bad = append(bad, api.Item{Kind: kind, R: r})
		}
	}
	for _, r := range none {
		bad = append(bad, lit(r))
	}
	for _, one := range bad {
		for _, good := range []api.Item{lit('a'), lit(0), lit('-'), sign(2), sign(6)} {
			for _, items := range [][]api.Item{{one}, {one, one}, {good, one}, {one, good}, {good, good, one, good}} {
				holdNone(t, items)
			}
			holdNone(t, append(slices.Repeat([]api.Item{good}, 41), one))
		}
	}
}

// TestMemory: what is handed in stays as it is, spare room too, and answers share nothing.
func TestMemory(t *testing.T) {
	tokens := []api.Token{p('a', 5), p('-', 6), q('-', 7), p('#', 8), q('x', 9), {R: -1}}
	tokensBefore := slices.Clone(tokens)
	items := []api.Item{lit('a'), sign(2), lit('-'), {Kind: 7}, lit('x'), {}}
	itemsBefore := slices.Clone(items)
	first, _ := Items(tokens[:3])
	firstTokens := Tokens(items[:3])
	second, _ := Items(tokens[:3])
	secondTokens := Tokens(items[:3])
	clear(second)
	clear(secondTokens)
	_ = append(second, lit('y'))
	_ = append(secondTokens, p('y', 0))
	if !slices.Equal(first, items[:3]) || !slices.Equal(firstTokens, []api.Token{p('a', 0), p('-', 0), q('-', 0)}) {
		t.Errorf("answers share memory: %v, %v", first, firstTokens)
	}
	Items(tokens)
	Tokens(items)
	Print(items)
	Print(items[:3])
	if !slices.Equal(tokens, tokensBefore) || !slices.Equal(items, itemsBefore) {
		t.Errorf("what is handed in is changed: %v, %v", tokens, items)
	}
	clear(first)
	clear(firstTokens)
	if third, fault := Items(tokens[:3]); !slices.Equal(third, items[:3]) || fault != (api.Fault{}) || Print(items[:3]) != "a-'-'" {
		t.Errorf("something is kept: %v, %v, %q", third, fault, Print(items[:3]))
	}
}

// TestEnd: long lists end.
func TestEnd(t *testing.T) {
	const n = 1 << 20
	list := slices.Repeat([]api.Token{p('-', 0), q('#', 0), p('E', 0)}, n)
	if items, fault := Items(list); fault != (api.Fault{E: api.ErrLong}) || len(items) != 0 {
		t.Errorf("Items of a long list: %d, %v", len(items), fault)
	}
	if items, fault := Items(append(list, p('#', n))); fault != (api.Fault{E: api.ErrNumber, At: n}) || len(items) != 0 {
		t.Errorf("Items of a long list and a mark: %d, %v", len(items), fault)
	}
	long := slices.Repeat([]api.Item{sign(2), lit('#'), lit('a')}, n)
	if text := Print(long); text != strings.Repeat("-'#'a", n) {
		t.Errorf("Print of a long list has %d bytes", len(text))
	}
	if text := Print(append(long, api.Item{})); text != "" {
		t.Errorf("Print of a long list and what may not be has %d bytes", len(text))
	}
}
