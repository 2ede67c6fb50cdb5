package symbol

import (
	"math"
	"math/rand"
	"slices"
	"strings"
	"testing"
	"unicode/utf8"

	"figurehead/api"
)

// kinds are the signs' kinds, and the symbols' fields that they are written as, written out once more.
var kinds = map[int]func(s api.Symbols) string{
	2: func(s api.Symbols) string { return s.Minus },
	3: func(s api.Symbols) string { return s.Plus },
	4: func(s api.Symbols) string { return s.Percent },
	5: func(s api.Symbols) string { return s.Permille },
	6: func(s api.Symbols) string { return s.Currency },
}

// none are no code points, with those whose lowest bits are some character's.
var none = []rune{
	-1, -2, -'-', -'a', math.MinInt32, math.MinInt32 + 'a', 0xd800, 0xd82d, 0xdbff, 0xdc00, 0xdfff,
	0x110000, 0x11002d, 0x200045, 0x1000000 + 'a', math.MaxInt32 - 1, math.MaxInt32,
}

// points are code points: the ends of what takes more bytes, signs, marks and digits, and fffd.
var points = []rune{
	0, 1, '\n', ' ', '#', '\'', '-', '+', '%', ';', '*', '0', '9', '@', 'E', 'a', 0x7f, 0x80, 0xa4, 0x660, 0x7ff, 0x800, 0x2030,
	0xd7ff, 0xe000, 0xfffc, 0xfffd, 0xfffe, 0xffff, 0x10000, 0x1f600, 0x10ffff,
}

// right are right texts of 1 to 16 bytes.
var right = []string{
	"a", "\x00", " ", "0", "9", "-", "\x7f", "\u00a4", "\u0661", "\u07ff", "\u2030", "\ufffd", "\uffff", "\ud7ff", "\ue000", "\U0001f600", "\U0010ffff", "a\u0301", "\u200e-", "E", "\u00d710^",
	"ab", "abcdefghijklmno", "abcdefghijklmnop", "1234567890123456", strings.Repeat("\u00e9", 8), "a" + strings.Repeat("\u20ac", 5), strings.Repeat("\U0001f600", 4), strings.Repeat("\x00", 16), strings.Repeat("\ufffd", 5) + "x",
}

// wrong are texts that no symbol has: of no byte, or of more than 16, though these may be 16 characters or fewer, or not right.
var wrong = []string{
	"",
	"12345678901234567", "123456789012345678", strings.Repeat("a", 32), strings.Repeat("a", 256), strings.Repeat("a", 257), strings.Repeat("a", 272), strings.Repeat("\x00", 17),
	strings.Repeat("\u00e9", 9), "a" + strings.Repeat("\u00e9", 8), strings.Repeat("\u00e9", 16), strings.Repeat("\u20ac", 6), "ab" + strings.Repeat("\u20ac", 5), strings.Repeat("\U0001f600", 4) + "a", strings.Repeat("\U0001f600", 5), strings.Repeat("\U0001f600", 16),
	"\x80", "\xff", "\xbf", "\xc0", "\xc2", "\xe2", "\xe2\x82", "\xf0\x9f\x98", "\xef\xbf", "\xc0\x80", "\xc1\xbf", "\xe0\x80\xa7", "\xf0\x82\x82\xac", "\xed\xa0\x80", "\xed\xbf\xbf", "\xf4\x90\x80\x80", "\xf8\x88\x80\x80\x80",
	"a\xff", "\xffa", "a\xe2\x82", "\u20ac\x80", "\ufffd\xff", "\ufffd\xef\xbf", "abcdefghijklmno\xff", "\xffabcdefghijklmno", strings.Repeat("\xff", 16), strings.Repeat("\x80", 17), "abcdefghijklmn\xe2\x82", "abcdefghijklmno\u00e9"[:16],
}

// lit is an item Lit.
func lit(r rune) api.Item { return api.Item{Kind: 1, R: r} }

// item is a sign's item.
func item(kind int) api.Item { return api.Item{Kind: kind} }

// fields are the places of s's eight texts.
func fields(s *api.Symbols) []*string {
	return []*string{&s.Decimal, &s.Group, &s.Minus, &s.Plus, &s.Percent, &s.Permille, &s.Currency, &s.E}
}

// all are the symbols all texts of which are the text.
func all(zero rune, text string) api.Symbols {
	s := api.Symbols{Zero: zero}
	for _, field := range fields(&s) {
		*field = text
	}
	return s
}

// isPoint tells whether n is a code point, by chapter 11's words.
func isPoint(n int64) bool {
	return 0 <= n && n <= 0x10ffff && !(0xd800 <= n && n <= 0xdfff)
}

// isZero tells whether n and the nine behind it are all code points.
func isZero(n int64) bool {
	for d := range int64(10) {
		if !isPoint(n + d) {
			return false
		}
	}
	return true
}

// good is what the chapter's words say of s.
func good(s api.Symbols) bool {
	for _, field := range fields(&s) {
		if len(*field) < 1 || len(*field) > 16 || !utf8.ValidString(*field) {
			return false
		}
	}
	return isZero(int64(s.Zero))
}

// written is what the chapter's words make of the items.
func written(s api.Symbols, items []api.Item) string {
	out := ""
	for _, one := range items {
		switch {
		case one.Kind == 1 && isPoint(int64(one.R)):
			out += string(one.R)
		case kinds[one.Kind] != nil && one.R == 0:
			out += kinds[one.Kind](s)
		default:
			return ""
		}
	}
	return out
}

// holdGood holds Good of s against the chapter's words, and against what is wanted.
func holdGood(t *testing.T, s api.Symbols, want bool) {
	t.Helper()
	if got := Good(s); got != want || got != good(s) {
		t.Errorf("Good(%+q) = %v", s, got)
	}
}

// holdText holds Text against the chapter's words.
func holdText(t *testing.T, s api.Symbols, items []api.Item) {
	t.Helper()
	if got, want := Text(s, items), written(s, items); got != want {
		t.Errorf("Text(%+q, %v) = %q, want %q", s, items, got, want)
	}
}

// rows calls do with all rows of n of the items.
func rows(items []api.Item, n int, do func([]api.Item)) {
	row := make([]api.Item, n)
	var fill func(at int)
	fill = func(at int) {
		if at == n {
			do(row)
			return
		}
		for _, row[at] = range items {
			fill(at + 1)
		}
	}
	fill(0)
}

// TestExample: the chapter's example.
func TestExample(t *testing.T) {
	if text := Text(Latin(), []api.Item{lit('a'), item(api.Minus)}); text != "a-" {
		t.Errorf("Text = %q", text)
	}
}

// TestLatin: byte by byte, and good.
func TestLatin(t *testing.T) {
	want := api.Symbols{Zero: 48, Decimal: "\x2e", Group: "\x2c", Minus: "\x2d", Plus: "\x2b", Percent: "\x25", Permille: "\xe2\x80\xb0", Currency: "\xc2\xa4", E: "\x45"}
	if s := Latin(); s != want {
		t.Errorf("Latin() = %+q", s)
	}
	holdGood(t, Latin(), true)
	items := []api.Item{item(2), item(3), item(4), item(5), item(6), lit('-')}
	if text := Text(Latin(), items); text != "-+%\u2030\u00a4-" {
		t.Errorf("Text = %q", text)
	}
	// What is done to an answer is not seen in the next one.
	s := Latin()
	s.Zero, s.E = 0, ""
	if again := Latin(); again != want {
		t.Errorf("Latin() = %+q, the second time", again)
	}
}

// TestZero: all code points as Zero, what lies about them, and numbers of all sizes.
func TestZero(t *testing.T) {
	for zero := int64(-0x1000); zero <= 0x112000; zero++ {
		s := Latin()
		s.Zero = rune(zero)
		holdGood(t, s, isZero(zero))
	}
	for zero := int64(math.MinInt32); zero <= math.MaxInt32; zero += 16381 {
		s := Latin()
		s.Zero = rune(zero)
		holdGood(t, s, isZero(zero))
	}
	for zero, want := range map[rune]bool{
		0: true, '0': true, '1': true, 0x660: true, 0xd7f6: true, 0xd7f7: false, 0xd7ff: false, 0xd800: false, 0xdfff: false, 0xe000: true, 0xfff4: true,
		0x10fff6: true, 0x10fff7: false, 0x10ffff: false, 0x110000: false, -1: false, math.MinInt32: false, math.MaxInt32: false, math.MaxInt32 - 8: false,
	} {
		s := Latin()
		s.Zero = zero
		holdGood(t, s, want)
	}
}

// TestTexts: each of the eight may have what each other may, and one that is wrong is enough.
func TestTexts(t *testing.T) {
	for i := range fields(&api.Symbols{}) {
		for _, text := range right {
			s := Latin()
			*fields(&s)[i] = text
			holdGood(t, s, true)
			s.Zero = 0xd7f7
			holdGood(t, s, false)
			s = all(0x660, text)
			holdGood(t, s, true)
		}
		for _, text := range wrong {
			s := Latin()
			*fields(&s)[i] = text
			holdGood(t, s, false)
			s = all('0', text)
			holdGood(t, s, false)
			*fields(&s)[i] = "a"
			holdGood(t, s, false)
		}
	}
	holdGood(t, api.Symbols{}, false)
	holdGood(t, api.Symbols{Zero: '0'}, false)
}

// TestLengths: of each length, in bytes, of characters of each number of bytes.
func TestLengths(t *testing.T) {
	for _, r := range []rune{0, 'a', 0xa4, 0x2030, 0xfffd, 0x1f600} {
		one := string(r)
		for n := range 40 {
			for ahead := range 4 {
				text := strings.Repeat("x", ahead) + strings.Repeat(one, n)
				want := len(text) >= 1 && len(text) <= 16
				holdGood(t, all('0', text), want)
				for i := range fields(&api.Symbols{}) {
					s := Latin()
					*fields(&s)[i] = text
					holdGood(t, s, want)
				}
			}
		}
	}
}

// TestAlike: what makes a pattern unclear is no fault of symbols: texts that are alike, or digits, or have them.
func TestAlike(t *testing.T) {
	for _, text := range []string{"0", "5", "-", "1.5", "'", "#", ";", " ", "E", "\u0661"} {
		holdGood(t, all('0', text), true)
		holdGood(t, all(0x660, text), true)
	}
	s := Latin()
	s.Decimal, s.Group = s.Group, s.Decimal
	holdGood(t, s, true)
	s.Plus = s.Minus
	holdGood(t, s, true)
}

// TestBytes: all texts of one byte and of two, in each place.
func TestBytes(t *testing.T) {
	for a := range 256 {
		one := string([]byte{byte(a)})
		for i := range fields(&api.Symbols{}) {
			s := Latin()
			*fields(&s)[i] = one
			holdGood(t, s, a < 0x80)
		}
		for b := range 256 {
			two := string([]byte{byte(a), byte(b)})
			holdGood(t, all('0', two), utf8.ValidString(two))
		}
	}
}

func TestTextTable(t *testing.T) {
	s := api.Symbols{Zero: 0x6f0, Decimal: "d", Group: "g", Minus: "\u200e\u2212", Plus: "\u200e+", Percent: "\u066a", Permille: "\u0609", Currency: "CHF ", E: "\u00d710^"}
	cases := []struct {
		items []api.Item
		want  string
	}{
		{nil, ""},
		{[]api.Item{}, ""},
		{[]api.Item{item(2)}, "\u200e\u2212"},
		{[]api.Item{item(3)}, "\u200e+"},
		{[]api.Item{item(4)}, "\u066a"},
		{[]api.Item{item(5)}, "\u0609"},
		{[]api.Item{item(6)}, "CHF "},
		{[]api.Item{lit('-'), lit('+'), lit('%'), lit(0x2030), lit(0xa4)}, "-+%\u2030\u00a4"},
		{[]api.Item{lit('.'), lit(','), lit('E'), lit('\''), lit('0'), lit('#')}, ".,E'0#"},
		{[]api.Item{lit('('), item(6), item(2), lit(')')}, "(CHF \u200e\u2212)"},
		{[]api.Item{item(4), item(4), lit('a'), item(4)}, "\u066a\u066aa\u066a"},
		{[]api.Item{lit(0), lit(0xfffd), lit(0x10ffff), lit(0x20ac)}, "\x00\ufffd\U0010ffff\u20ac"},
		{[]api.Item{lit('a'), {}}, ""},
		{[]api.Item{{Kind: 2, R: '-'}}, ""},
		{[]api.Item{item(3), lit(0xd800)}, ""},
		{[]api.Item{item(1)}, "\x00"},
	}
	for _, c := range cases {
		if text := Text(s, c.items); text != c.want {
			t.Errorf("Text(%v) = %q, want %q", c.items, text, c.want)
		}
		holdText(t, s, c.items)
		// Digits, point, commas and E are written by no item.
		other := s
		other.Zero, other.Decimal, other.Group, other.E = -1, "", "\xff", "12345678901234567"
		if text := Text(other, c.items); text != c.want {
			t.Errorf("Text(%v) of others = %q, want %q", c.items, text, c.want)
		}
	}
}

// TestTextBad: of symbols that are not good the texts are written as they are.
func TestTextBad(t *testing.T) {
	bad := api.Symbols{Zero: -1, Minus: "\xff", Plus: "", Percent: "\xe2\x82", Permille: strings.Repeat("p", 1000), Currency: "\xed\xa0\x80\x00"}
	for _, c := range []struct {
		items []api.Item
		want  string
	}{
		{[]api.Item{item(2)}, "\xff"},
		{[]api.Item{item(3)}, ""},
		{[]api.Item{item(3), item(3), lit('a'), item(3)}, "a"},
		{[]api.Item{item(4), lit(0xac)}, "\xe2\x82\xc2\xac"},
		{[]api.Item{item(5)}, strings.Repeat("p", 1000)},
		{[]api.Item{item(6), item(2)}, "\xed\xa0\x80\x00\xff"},
		{[]api.Item{item(2), {Kind: 3, R: 1}}, ""},
	} {
		if text := Text(bad, c.items); text != c.want {
			t.Errorf("Text(%v) = %q, want %q", c.items, text, c.want)
		}
		holdText(t, bad, c.items)
	}
	for _, text := range wrong {
		for kind := 2; kind <= 6; kind++ {
			s := all(-1, text)
			if got := Text(s, []api.Item{item(kind)}); got != text {
				t.Errorf("Text of kind %d = %q, want %q", kind, got, text)
			}
			if got := Text(s, []api.Item{lit('('), item(kind), lit(')')}); got != "("+text+")" {
				t.Errorf("Text of kind %d in brackets = %q, want %q", kind, got, text)
			}
		}
	}
	if text := Text(api.Symbols{}, []api.Item{item(2), item(3), item(4), item(5), item(6)}); text != "" {
		t.Errorf("Text of no symbols = %q", text)
	}
}

// TestPoints: each code point as a Lit; what is none is nothing, beside others too.
func TestPoints(t *testing.T) {
	s := Latin()
	for r := rune(-0x1000); r <= 0x112000; r++ {
		want := ""
		if isPoint(int64(r)) {
			want = string(r)
		}
		if text := Text(s, []api.Item{lit(r)}); text != want {
			t.Errorf("Text of a Lit %x = %q", r, text)
		}
		holdText(t, s, []api.Item{item(3), lit(r), item(2)})
	}
}

// TestRows: all rows of a few items, and of two of all sorts.
func TestRows(t *testing.T) {
	tables := []api.Symbols{Latin(), {}, {Minus: "m", Plus: "plus", Percent: "\xff", Permille: "\u2030", Currency: "\u20ac "}}
	few := []api.Item{lit('a'), lit('-'), lit(0), item(2), item(3), item(6), {Kind: 7}, lit(-1)}
	var every []api.Item
	for kind := -2; kind <= 9; kind++ {
		for _, r := range []rune{0, 1, 'a', '-', 0xa4, -1, 0xd800, 0x110000} {
			every = append(every, api.Item{Kind: kind, R: r})
		}
	}
	for _, r := range slices.Concat(points, none) {
		every = append(every, lit(r))
	}
	for _, s := range tables {
		for n := range 5 {
			rows(few, n, func(row []api.Item) { holdText(t, s, row) })
		}
		rows(every, 2, func(row []api.Item) { holdText(t, s, row) })
	}
}

// TestNone: one item that may not be, wherever it stands, and nothing is answered.
func TestNone(t *testing.T) {
	var bad []api.Item
	for _, kind := range []int{math.MinInt, math.MinInt32, -5, -1, 0, 7, 8, 257, 258, 1 << 32, 1<<32 + 1, 1<<32 + 2, math.MaxInt} {
		for _, r := range []rune{0, 1, 'a', '-', -1, math.MaxInt32} {
			bad = append(bad, api.Item{Kind: kind, R: r})
		}
	}
	for kind := range kinds {
		for _, r := range slices.Concat([]rune{1, rune(kind)}, points[1:], none) {
			bad = append(bad, api.Item{Kind: kind, R: r})
		}
	}
	for _, r := range none {
		bad = append(bad, lit(r))
	}
	for _, s := range []api.Symbols{Latin(), all('0', "x"), {}} {
		for _, one := range bad {
			for _, may := range []api.Item{lit('a'), lit(0), item(2), item(6)} {
				for _, items := range [][]api.Item{{one}, {one, one}, {may, one}, {one, may}, {may, may, one, may}, append(slices.Repeat([]api.Item{may}, 41), one)} {
					if text := Text(s, items); text != "" {
						t.Errorf("Text(%v) = %q, want nothing", items, text)
					}
				}
			}
		}
	}
}

// TestRandom: symbols and rows of items of all sorts.
func TestRandom(t *testing.T) {
	source := rand.New(rand.NewSource(18))
	pick := func(list []string) string { return list[source.Intn(len(list))] }
	goods := 0
	for range 20000 {
		s := api.Symbols{Zero: []rune{'0', 0x660, 0xd7f6, 0x10fff6, 0, -1, 0xd7f7, 0x10fff7}[source.Intn(8)]}
		for _, field := range fields(&s) {
			*field = pick(right)
			if source.Intn(16) == 0 {
				*field = pick(wrong)
			}
		}
		if Good(s) {
			goods++
		}
		holdGood(t, s, good(s))
		var items []api.Item
		for range source.Intn(60) {
			items = append(items, lit(points[source.Intn(len(points))]), item(2+source.Intn(5)))
		}
		if source.Intn(8) == 0 {
			items = append(items, lit(none[source.Intn(len(none))]))
		}
		source.Shuffle(len(items), func(i, j int) { items[i], items[j] = items[j], items[i] })
		holdText(t, s, items)
	}
	if goods < 5000 || goods > 15000 {
		t.Errorf("%d are good", goods)
	}
}

// TestMemory: what is handed in stays as it is, spare room too, and nothing is kept.
func TestMemory(t *testing.T) {
	items := []api.Item{lit('a'), item(2), lit('-'), item(6), {Kind: 7}, lit('x')}
	before := slices.Clone(items)
	s := Latin()
	first := Text(s, items[:4])
	Text(s, items)
	Text(s, items[:0])
	Text(all('0', "x"), items[:4])
	Good(s)
	if !slices.Equal(items, before) || s != Latin() {
		t.Errorf("what is handed in is changed: %v, %+q", items, s)
	}
	again := Text(s, items[:4])
	clear(items)
	if first != "a--\u00a4" || again != first {
		t.Errorf("Text = %q, then %q", first, again)
	}
}

// TestEnd: long lists, and long texts, end: no number of items is too many.
func TestEnd(t *testing.T) {
	const n = 1 << 20
	for _, count := range []int{39, 40, 41, 400, 401} {
		holdText(t, Latin(), slices.Repeat([]api.Item{item(5), lit('a')}, count))
	}
	long := slices.Repeat([]api.Item{item(2), lit('#'), item(5)}, n)
	if text := Text(Latin(), long); text != strings.Repeat("-#\u2030", n) {
		t.Errorf("Text of a long list has %d bytes", len(text))
	}
	if text := Text(Latin(), append(long, api.Item{})); text != "" {
		t.Errorf("Text of a long list and what may not be has %d bytes", len(text))
	}
	s := all('0', strings.Repeat("\u20ac", n))
	holdGood(t, s, false)
	holdText(t, s, []api.Item{item(6), lit(' '), item(6)})
}
