package token

import (
	"math"
	"slices"
	"strings"
	"testing"
	"unicode/utf8"

	"figurehead/api"
)

// points are code points at all ends of what takes more bytes, those that patterns give a meaning, and fffd.
var points = []rune{
	0, 1, '\n', ' ', '"', '#', '%', '&', '(', '*', '+', ',', '-', '.', '0', '1', '9', ';', '@', 'E', 'a', '`', 0x7e, 0x7f,
	0x80, 0xa4, 0xe9, 0x7ff, 0x800, 0x2018, 0x2019, 0x2030, 0xd7ff, 0xe000, 0xfffc, 0xfffd, 0xfffe, 0xffff, 0x10000, 0x1f600, 0x10ffff,
}

// none are no code points, with those whose lowest bits are a code point's, or a '.
var none = []rune{-1, -'\'', math.MinInt32, math.MinInt32 + '\'', 0xd800, 0xd827, 0xdabc, 0xdfff, 0x110000, 0x200027, 0x1000000 + '\'', math.MaxInt32}

// wrong are bytes at whose first one no code point's bytes begin.
var wrong = []string{"\x80", "\xbf", "\xc0", "\xff", "\xe2\x82", "\xef\xbf", "\xc0\xa7", "\xe0\x80\xa7", "\xed\xa0\x80", "\xf4\x90\x80\x80", "\xf0\x9f\x98"}

// p is a plain token.
func p(r rune, at int) api.Token { return api.Token{R: r, At: at} }

// q is a quoted token.
func q(r rune, at int) api.Token { return api.Token{R: r, Quoted: true, At: at} }

// firstWrong is the place of the first byte at which no code point begins; -1 of a right text.
func firstWrong(s string) int {
	for at := 0; at < len(s); {
		r, n := utf8.DecodeRuneInString(s[at:])
		if r == utf8.RuneError && n < 2 {
			return at
		}
		at += n
	}
	return -1
}

// read is what the chapter's words make of s, taken off from its beginning on.
func read(s string) ([]api.Token, api.Fault) {
	if at := firstWrong(s); at >= 0 {
		return nil, api.Fault{E: api.ErrText, At: at}
	}
	var list []api.Token
	within, opened := false, 0
	for at := 0; at < len(s); {
		if rest := s[at:]; strings.HasPrefix(rest, "''") {
			list, at = append(list, q('\'', at)), at+2
		} else if rest[0] == '\'' {
			if !within {
				opened = at
			}
			within, at = !within, at+1
		} else {
			r, n := utf8.DecodeRuneInString(rest)
			list, at = append(list, api.Token{R: r, Quoted: within, At: at}), at+n
		}
	}
	if within {
		return nil, api.Fault{E: api.ErrQuote, At: opened}
	}
	if len(list) > 400 {
		return nil, api.Fault{E: api.ErrLong}
	}
	return list, api.Fault{}
}

// written is what the chapter's words make of the list: each row of quoted ones is looked for as a whole.
func written(list []api.Token) string {
	out := ""
	for len(list) > 0 {
		if !list[0].Quoted {
			out, list = out+string(list[0].R), list[1:]
			continue
		}
		n := slices.IndexFunc(list, func(t api.Token) bool { return !t.Quoted })
		if n < 0 {
			n = len(list)
		}
		row := ""
		for _, t := range list[:n] {
			row += string(t.R)
		}
		list = list[n:]
		if doubled := strings.ReplaceAll(row, "'", "''"); strings.Trim(row, "'") == "" {
			out += doubled
		} else {
			out += "'" + doubled + "'"
		}
	}
	return out
}

// hold holds Scan of s against the chapter's words, and Print of what it answers against these tokens.
func hold(t *testing.T, s string) {
	t.Helper()
	want, wantFault := read(s)
	got, fault := Scan(s)
	if !slices.Equal(got, want) || fault != wantFault {
		t.Errorf("Scan(%q) = %v, %v, want %v, %v", s, got, fault, want, wantFault)
	}
	if fault.E == api.OK {
		holdPrint(t, got)
	}
}

// holdPrint holds Print of tokens that may be against the chapter's words, and Scan of that against the tokens.
func holdPrint(t *testing.T, list []api.Token) {
	t.Helper()
	text := Print(list)
	if want := written(list); text != want {
		t.Errorf("Print(%v) = %q, want %q", list, text, want)
	}
	if back, fault := Scan(text); !same(back, list) || fault != (api.Fault{}) {
		t.Errorf("Scan(%q) = %v, %v, want %v", text, back, fault, list)
	}
}

// same tells whether both are the same tokens, but for At.
func same(a, b []api.Token) bool {
	return slices.EqualFunc(a, b, func(x, y api.Token) bool { return x.R == y.R && x.Quoted == y.Quoted })
}

// each calls do with all rows of the parts, of up to n of them.
func each[T any](parts []T, n int, do func([]T)) {
	var grow func(row []T)
	grow = func(row []T) {
		do(row)
		if len(row) < n {
			for _, one := range parts {
				grow(append(row, one))
			}
		}
	}
	grow(nil)
}

// TestExample: the chapter's example, and back.
func TestExample(t *testing.T) {
	list, fault := Scan("'a''b'#")
	if want := []api.Token{q('a', 1), q('\'', 2), q('b', 4), p('#', 6)}; !slices.Equal(list, want) || fault != (api.Fault{}) {
		t.Errorf("Scan = %v, %v, want %v", list, fault, want)
	}
	if s := Print(list); s != "'a''b'#" {
		t.Errorf("Print = %q", s)
	}
}

func TestScanTable(t *testing.T) {
	cases := []struct {
		s    string
		want []api.Token
	}{
		{"", nil},
		{"#,##0.00;(#)", []api.Token{p('#', 0), p(',', 1), p('#', 2), p('#', 3), p('0', 4), p('.', 5), p('0', 6), p('0', 7), p(';', 8), p('(', 9), p('#', 10), p(')', 11)}},
		{"''", []api.Token{q('\'', 0)}},
		{"''''", []api.Token{q('\'', 0), q('\'', 2)}},
		{"''a''", []api.Token{q('\'', 0), p('a', 2), q('\'', 3)}},
		{"'a'", []api.Token{q('a', 1)}},
		{"'a'''", []api.Token{q('a', 1), q('\'', 2)}},
		{"'''a'", []api.Token{q('\'', 0), q('a', 3)}},
		{"'''a'''", []api.Token{q('\'', 0), q('a', 3), q('\'', 4)}},
		{"'a''''b'c", []api.Token{q('a', 1), q('\'', 2), q('\'', 4), q('b', 6), p('c', 8)}},
		{"'a'b'c'", []api.Token{q('a', 1), p('b', 3), q('c', 5)}},
		{"a'b'''c", []api.Token{p('a', 0), q('b', 2), q('\'', 3), p('c', 6)}},
		{"''''''#", []api.Token{q('\'', 0), q('\'', 2), q('\'', 4), p('#', 6)}},
		{"'#0;*E'", []api.Token{q('#', 1), q('0', 2), q(';', 3), q('*', 4), q('E', 5)}},
		{"é'\u20ac'\U0001f600''\x00", []api.Token{p('é', 0), q('\u20ac', 3), p('\U0001f600', 7), q('\'', 11), p(0, 13)}},
		{"\ufffd'\ufffd'", []api.Token{p('\ufffd', 0), q('\ufffd', 4)}},
		{"\u2018a\u2019\"b\"`c`", []api.Token{p('\u2018', 0), p('a', 3), p('\u2019', 4), p('"', 7), p('b', 8), p('"', 9), p('`', 10), p('c', 11), p('`', 12)}},
	}
	for _, c := range cases {
		list, fault := Scan(c.s)
		if !slices.Equal(list, c.want) || fault != (api.Fault{}) {
			t.Errorf("Scan(%q) = %v, %v, want %v", c.s, list, fault, c.want)
		}
	}
}

// TestFaults: each fault, its place, and which of several is the first.
func TestFaults(t *testing.T) {
	long := strings.Repeat("#", 401)
	cases := []struct {
		s    string
		want api.Fault
	}{
		{"'", api.Fault{E: api.ErrQuote}},
		{"'''", api.Fault{E: api.ErrQuote, At: 2}},
		{"'''''", api.Fault{E: api.ErrQuote, At: 4}},
		{"'a", api.Fault{E: api.ErrQuote}},
		{"'a''", api.Fault{E: api.ErrQuote}},
		{"'a''''", api.Fault{E: api.ErrQuote}},
		{"a'b", api.Fault{E: api.ErrQuote, At: 1}},
		{"a'", api.Fault{E: api.ErrQuote, At: 1}},
		{"\u20ac\U0001f600'b", api.Fault{E: api.ErrQuote, At: 7}},
		{"'a'b'c", api.Fault{E: api.ErrQuote, At: 4}},
		{"'a'''b'c''", api.Fault{E: api.ErrQuote, At: 6}},
		{"''a''b'", api.Fault{E: api.ErrQuote, At: 6}},
		{"\xff", api.Fault{E: api.ErrText}},
		{"a\xffb\xff", api.Fault{E: api.ErrText, At: 1}},
		{"'\xff'", api.Fault{E: api.ErrText, At: 1}},
		{"\ufffd\xff", api.Fault{E: api.ErrText, At: 3}},
		{"'a\xe2\x82", api.Fault{E: api.ErrText, At: 2}},
		{"'a'b'c\xff", api.Fault{E: api.ErrText, At: 6}},
		{long, api.Fault{E: api.ErrLong}},
		{long + "\xff", api.Fault{E: api.ErrText, At: 401}},
		{long + "'\xff", api.Fault{E: api.ErrText, At: 402}},
		{long + "'", api.Fault{E: api.ErrQuote, At: 401}},
		{long + "'a'b'c", api.Fault{E: api.ErrQuote, At: 405}},
		{"'" + long, api.Fault{E: api.ErrQuote}},
	}
	for _, c := range cases {
		list, fault := Scan(c.s)
		if fault != c.want || len(list) != 0 {
			t.Errorf("Scan(%q) = %v, %v, want %v alone", c.s, list, fault, c.want)
		}
	}
}

// TestLong: it is tokens that are counted, whatever sort they are, and how many bytes they take.
func TestLong(t *testing.T) {
	texts := []func(n int) string{
		func(n int) string { return strings.Repeat("#", n) },
		func(n int) string { return strings.Repeat("\U0001f600", n) },
		func(n int) string { return strings.Repeat("''", n) },
		func(n int) string { return "'" + strings.Repeat("a", n) + "'" },
		func(n int) string { return "'a" + strings.Repeat("''", n-1) + "'" },
		func(n int) string { return strings.Repeat("0", n%2) + strings.Repeat("'\u20ac'0", n/2) },
		func(n int) string { return strings.Repeat("''0", n/2) + strings.Repeat("0", n%2) },
	}
	for i, text := range texts {
		for _, n := range []int{1, 2, 398, 399, 400, 401, 402, 403, 800, 801, 1000} {
			s := text(n)
			list, fault := Scan(s)
			if n <= 400 && (len(list) != n || fault != (api.Fault{})) {
				t.Errorf("text %d of %d tokens: %d, %v", i, n, len(list), fault)
			}
			if n > 400 && (len(list) != 0 || fault != api.Fault{E: api.ErrLong}) {
				t.Errorf("text %d of %d tokens: %d, %v, want ErrLong", i, n, len(list), fault)
			}
			hold(t, s)
		}
	}
}

// TestScanAll: all texts of a few characters, and of some right and wrong bytes.
func TestScanAll(t *testing.T) {
	each([]string{"'", "a", "#", "\u20ac"}, 7, func(row []string) { hold(t, strings.Join(row, "")) })
	each([]string{"'", "a", "é", "\ufffd", "\xff", "\xe2\x82"}, 5, func(row []string) { hold(t, strings.Join(row, "")) })
	for a := range 256 {
		for b := range 256 {
			s := string([]byte{byte(a), byte(b)})
			hold(t, s)
			hold(t, "'"+s)
			hold(t, "'"+s+"'")
		}
	}
}

// TestPoints: each code point stands plain, and quoted.
func TestPoints(t *testing.T) {
	for r := rune(0); r <= utf8.MaxRune; r++ {
		if !utf8.ValidRune(r) || r == '\'' {
			continue
		}
		s := string(r)
		want := []api.Token{p(r, 0), q(r, 1+len(s))}
		list, fault := Scan(s + "'" + s + "'")
		if !slices.Equal(list, want) || fault != (api.Fault{}) {
			t.Errorf("Scan of %x = %v, %v", r, list, fault)
		}
		if text := Print(want); text != s+"'"+s+"'" {
			t.Errorf("Print of %x = %q", r, text)
		}
	}
}

// TestWrongText: the place is that of the first wrong byte, whatever stands about it.
func TestWrongText(t *testing.T) {
	for _, bad := range wrong {
		for _, ahead := range []string{"", "#", "'", "''", "'''", "'a'", "é'", "\ufffd", strings.Repeat("0", 500)} {
			for _, behind := range []string{"", "#", "'", "\xff", "\ufffd"} {
				list, fault := Scan(ahead + bad + behind)
				if want := (api.Fault{E: api.ErrText, At: len(ahead)}); fault != want || len(list) != 0 {
					t.Errorf("Scan(%q) = %v, %v, want %v alone", ahead+bad+behind, list, fault, want)
				}
			}
		}
	}
}

func TestPrintTable(t *testing.T) {
	cases := []struct {
		list []api.Token
		want string
	}{
		{nil, ""},
		{[]api.Token{}, ""},
		{[]api.Token{p('a', 0)}, "a"},
		{[]api.Token{q('a', 0)}, "'a'"},
		{[]api.Token{q('\'', 0)}, "''"},
		{[]api.Token{q('\'', 0), q('\'', 0)}, "''''"},
		{[]api.Token{q('\'', 0), q('a', 0)}, "'''a'"},
		{[]api.Token{q('a', 0), q('\'', 0)}, "'a'''"},
		{[]api.Token{q('\'', 0), q('a', 0), q('\'', 0)}, "'''a'''"},
		{[]api.Token{q('a', 0), q('\'', 0), q('b', 0)}, "'a''b'"},
		{[]api.Token{q('a', 0), p('b', 0), q('\'', 0), p('c', 0), q('\'', 0), q('d', 0)}, "'a'b''c'''d'"},
		{[]api.Token{p('a', 0), q('b', 0), q('c', 0), p('d', 0), p('e', 0)}, "a'bc'de"},
		{[]api.Token{q('\'', 0), p('a', 0), q('\'', 0)}, "''a''"},
		{[]api.Token{p('#', 0), p(';', 0), q(';', 0), p('\u20ac', 0), q('\U0001f600', 0), p(0, 0), q('\ufffd', 0)}, "#;';'\u20ac'\U0001f600'\x00'\ufffd'"},
		// What is no token, wherever it stands.
		{[]api.Token{p('\'', 0)}, ""},
		{[]api.Token{p('a', 0), p('\'', 1)}, ""},
		{[]api.Token{q('a', 0), p('\'', 1), q('b', 0)}, ""},
		{[]api.Token{q('\'', 0), p('\'', 1)}, ""},
		{[]api.Token{p('\'', 0), q('\'', 1), p('a', 0)}, ""},
	}
	for _, c := range cases {
		if got := Print(c.list); got != c.want {
			t.Errorf("Print(%v) = %q, want %q", c.list, got, c.want)
		}
	}
}

// TestPrintAll: all rows of a few tokens, and of tokens with code points of all sorts.
func TestPrintAll(t *testing.T) {
	each([]api.Token{p('a', 0), p('#', 0), q('\'', 0), q('a', 0), q('\u20ac', 0)}, 7, func(row []api.Token) { holdPrint(t, row) })
	var all []api.Token
	for _, r := range points {
		all = append(all, p(r, 0), q(r, 0))
	}
	all = append(all, q('\'', 0))
	each(all, 2, func(row []api.Token) { holdPrint(t, row) })
	holdPrint(t, all)
	holdPrint(t, slices.Repeat([]api.Token{q('\'', 0), q('b', 0), p('c', 0), q('d', 0)}, 100))
}

// TestPrintPlaces: where tokens stand makes no difference.
func TestPrintPlaces(t *testing.T) {
	for _, at := range []int{-1, 0, 7, math.MinInt, math.MaxInt} {
		list := []api.Token{q('a', at), p('b', 3), q('\'', at), q('c', -at), p('d', at)}
		if got := Print(list); got != "'a'b'''c'd" {
			t.Errorf("Print(%v) = %q", list, got)
		}
		if got := Print([]api.Token{q('a', at), p('\'', at)}); got != "" {
			t.Errorf("Print of a plain ' at %d = %q", at, got)
		}
	}
}

// TestPrintNone: one that is no code point, and nothing is printed.
func TestPrintNone(t *testing.T) {
	some := []api.Token{p('a', 0), q('b', 0), q('\'', 0)}
	for _, r := range none {
		for _, bad := range []api.Token{p(r, 0), q(r, 0)} {
			for _, ahead := range some {
				for _, list := range [][]api.Token{{bad}, {ahead, bad}, {bad, ahead}, {ahead, bad, ahead}, {bad, bad}, {bad, p('\'', 0)}, {p('\'', 0), bad}} {
					if got := Print(list); got != "" {
						t.Errorf("Print(%v) = %q, want nothing", list, got)
					}
				}
			}
		}
	}
}

// TestPrintLong: more tokens than a pattern has are printed like others.
func TestPrintLong(t *testing.T) {
	if got, want := Print(slices.Repeat([]api.Token{p('a', 0)}, 401)), strings.Repeat("a", 401); got != want {
		t.Errorf("Print of 401 plain ones = %q", got)
	}
	if got, want := Print(slices.Repeat([]api.Token{q('\'', 0)}, 1000)), strings.Repeat("'", 2000); got != want {
		t.Errorf("Print of 1000 quoted ' = %q", got)
	}
	if got, want := Print(slices.Repeat([]api.Token{q('a', 0)}, 1000)), "'"+strings.Repeat("a", 1000)+"'"; got != want {
		t.Errorf("Print of 1000 quoted ones = %q", got)
	}
}

// TestMemory: what is handed in stays as it is, spare room too, and answers share nothing.
func TestMemory(t *testing.T) {
	room := []api.Token{q('a', 5), q('\'', 6), p('b', 7), q('c', 8), p('\'', 9), {R: -1}, q('d', 10)}
	before := slices.Clone(room)
	if got := Print(room[:4]); got != "'a'''b'c'" {
		t.Errorf("Print = %q", got)
	}
	if Print(room) != "" || !slices.Equal(room, before) {
		t.Errorf("Print changed its list to %v", room)
	}
	first, _ := Scan("'a''b'#")
	kept := slices.Clone(first)
	second, _ := Scan("'a''b'#")
	clear(second)
	_ = append(second, q('x', 0))
	_ = append(first, q('y', 0))
	if third, fault := Scan("'a''b'#"); !slices.Equal(first, kept) || !slices.Equal(third, kept) || fault != (api.Fault{}) {
		t.Errorf("Scan's answers share memory: %v, %v", first, third)
	}
}

// TestEnd: long texts and lists end.
func TestEnd(t *testing.T) {
	const n = 1 << 20
	cases := []struct {
		s    string
		want api.Fault
	}{
		{strings.Repeat("#", n), api.Fault{E: api.ErrLong}},
		{strings.Repeat("'", n), api.Fault{E: api.ErrLong}},
		{strings.Repeat("'", n+1), api.Fault{E: api.ErrQuote, At: n}},
		{"'" + strings.Repeat("a", n), api.Fault{E: api.ErrQuote}},
		{strings.Repeat("'a'", n), api.Fault{E: api.ErrLong}},
		{strings.Repeat("'a'b", n) + "'", api.Fault{E: api.ErrQuote, At: 4 * n}},
		{strings.Repeat("\u20ac", n) + "\xe2", api.Fault{E: api.ErrText, At: 3 * n}},
		{strings.Repeat("'a'b", n) + "'\ufffd\xff", api.Fault{E: api.ErrText, At: 4*n + 4}},
	}
	for _, c := range cases {
		if list, fault := Scan(c.s); fault != c.want || len(list) != 0 {
			t.Errorf("Scan of %d bytes: %d tokens, %v, want %v", len(c.s), len(list), fault, c.want)
		}
	}
	if got := Print(slices.Repeat([]api.Token{q('\'', 0), q('a', 0), p('b', 0)}, n)); got != strings.Repeat("'''a'b", n) {
		t.Errorf("Print of a long list has %d bytes", len(got))
	}
}
