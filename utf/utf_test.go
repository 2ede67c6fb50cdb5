package utf

import (
	"math"
	"slices"
	"strings"
	"testing"
	"unicode/utf8"
)

// edges are the code points at which the chapter's words change, and what is just beside them.
var edges = []rune{
	0, 1, '0', '9', 'a', '\'', 0x7e, 0x7f,
	0x80, 0x81, 0xa4, 0xbf, 0xc0, 0xff, 0x100, 0x660, 0x7fe, 0x7ff,
	0x800, 0x801, 0xfff, 0x1000, 0x2030, 0xcfff, 0xd000, 0xd7fe, 0xd7ff,
	0xe000, 0xe001, 0xfeff, 0xfffc, 0xfffd, 0xfffe, 0xffff,
	0x10000, 0x10001, 0x1f600, 0x3ffff, 0x40000, 0xfffff, 0x100000, 0x10fffe, 0x10ffff,
}

// none are numbers that are no code points: the ends of those that are left out, those whose lowest bits are a code point's, and the ends of all.
var none = []rune{
	-1, -2, -0x80, -0x10ffff, math.MinInt32, math.MinInt32 + 'a',
	0xd800, 0xd801, 0xdabc, 0xdbff, 0xdc00, 0xdffe, 0xdfff,
	0x110000, 0x110001, 0x1fffff, 0x200000, 0x200000 + 'a', 0x1000000 + 'a', 0x40000000 + 'a', math.MaxInt32 - 1, math.MaxInt32,
}

// wrong are bytes that are no right text, and the place of the first one at which no code point's bytes begin, by themselves.
var wrong = []struct {
	s  string
	at int
}{
	// Bytes that follow others, and bytes that nothing begins with.
	{"\x80", 0}, {"\x81", 0}, {"\xbf", 0}, {"\xc0", 0}, {"\xc1", 0}, {"\xf5", 0}, {"\xf8", 0}, {"\xfc", 0}, {"\xfe", 0}, {"\xff", 0},
	// Cut short, at the end and ahead of others.
	{"\xc2", 0}, {"\xdf", 0}, {"\xe2", 0}, {"\xe2\x82", 0}, {"\xf0", 0}, {"\xf0\x9f", 0}, {"\xf0\x9f\x98", 0}, {"\xef\xbf", 0}, {"\xf4\x8f\xbf", 0},
	{"\xc2a", 0}, {"\xe2\x82a", 0}, {"\xe2a\x82", 0}, {"\xf0\x9f\x98a", 0}, {"\xf0\x9fa\x98", 0}, {"\xf0a\x9f\x98", 0}, {"\xc2\xc2\x80", 0}, {"\xe2\x82\xe2\x82\xac", 0}, {"\xef\xbf\xef\xbf\xbd", 0},
	{"\xc2\x7f", 0}, {"\xc2\xc0", 0}, {"\xe2\x82\x7f", 0}, {"\xe2\x82\xc0", 0}, {"\xf0\x9f\x98\x7f", 0}, {"\xf0\x9f\x98\xc0", 0}, {"\xef\xbf\x3d", 0}, {"\xef\xbf\xfd", 0},
	// More bytes than it takes.
	{"\xc0\x80", 0}, {"\xc0\xaf", 0}, {"\xc1\xbf", 0}, {"\xe0\x80\x80", 0}, {"\xe0\x80\xa7", 0}, {"\xe0\x9f\xbf", 0}, {"\xf0\x80\x80\x80", 0}, {"\xf0\x82\x82\xac", 0}, {"\xf0\x8f\xbf\xbf", 0}, {"\xf0\x8f\xbf\xbd", 0}, {"\xf8\x88\x80\x80\x80", 0}, {"\xfc\x84\x80\x80\x80\x80", 0},
	// d800 to dfff, alone and as a pair, and what is above the last code point.
	{"\xed\xa0\x80", 0}, {"\xed\xaf\xbf", 0}, {"\xed\xb0\x80", 0}, {"\xed\xbf\xbf", 0}, {"\xed\xa0\xbd\xed\xb8\x80", 0}, {"\xf4\x90\x80\x80", 0}, {"\xf4\xbf\xbf\xbf", 0}, {"\xf5\x80\x80\x80", 0}, {"\xf7\xbf\xbf\xbf", 0},
	// Behind what is right, fffd among it.
	{"a\xe2\x82", 1}, {"é\xe2\x82", 2}, {"é\x80", 2}, {"€\xbf", 3}, {"😀\x98", 4}, {"\ufffd\xff", 3}, {"x\ufffd\xff", 4}, {"\ufffd\ufffd\xef\xbf", 6}, {"\ufffd\xbd", 3}, {"\x00\xff", 1}, {"\u2030\u00a4\xc3(", 5},
	// Of several the first one, whatever follows.
	{"\xffabc", 0}, {"a\xffb\xff", 1}, {"\xff\ufffd", 0}, {"é\xc3é", 2}, {"ab\x80\x80\x80", 2}, {"\xef\xbf\xbe\xef\xbf", 3},
}

// bytesOf are r's bytes as the chapter's words tell them, of any bits: also of what is no code point.
func bytesOf(r rune) string {
	follow := func(from int) byte { return byte(0x80 + r>>from&63) }
	switch {
	case r < 0x80:
		return string([]byte{byte(r)})
	case r < 0x800:
		return string([]byte{byte(0xc0 + r>>6), follow(0)})
	case r < 0x10000:
		return string([]byte{byte(0xe0 + r>>12), follow(6), follow(0)})
	}
	return string([]byte{byte(0xf0 + r>>18), follow(12), follow(6), follow(0)})
}

// isPoint tells whether r is a code point, by the chapter's words.
func isPoint(r int64) bool {
	return 0 <= r && r <= 0x10ffff && !(0xd800 <= r && r <= 0xdfff)
}

// begins tells how many bytes the code point has whose bytes s begins with; 0, if there is none.
func begins(s string) int {
	for n := 1; n <= min(4, len(s)); n++ {
		bits := rune(s[0]) & []rune{0x7f, 0x1f, 0x0f, 0x07}[n-1]
		for _, b := range []byte(s[1:n]) {
			bits = bits<<6 + rune(b&63)
		}
		if isPoint(int64(bits)) && bytesOf(bits) == s[:n] {
			return n
		}
	}
	return 0
}

// read is what the chapter's words tell of s: the place of the first fault, or -1, and how many code points there are ahead of it.
func read(s string) (bad, count int) {
	for at := 0; at < len(s); count++ {
		n := begins(s[at:])
		if n == 0 {
			return at, count
		}
		at += n
	}
	return -1, count
}

// holdRight holds all calls of a right text against its code points.
func holdRight(t *testing.T, s string, list []rune) {
	t.Helper()
	if at := Bad(s); at != -1 {
		t.Errorf("Bad(%q) = %d", s, at)
	}
	if n := Count(s); n != len(list) {
		t.Errorf("Count(%q) = %d, want %d", s, n, len(list))
	}
	if got, ok := Runes(s); !ok || !slices.Equal(got, list) {
		t.Errorf("Runes(%q) = %x, %v, want %x", s, got, ok, list)
	}
	if got, ok := Text(list); !ok || got != s {
		t.Errorf("Text(%x) = %q, %v, want %q", list, got, ok, s)
	}
}

// holdWrong holds all calls of a text that is not right: there is nothing beside the place of the fault.
func holdWrong(t *testing.T, s string, want int) {
	t.Helper()
	if at := Bad(s); at != want {
		t.Errorf("Bad(%q) = %d, want %d", s, at, want)
	}
	if n := Count(s); n != 0 {
		t.Errorf("Count(%q) = %d, want 0", s, n)
	}
	if got, ok := Runes(s); ok || len(got) != 0 {
		t.Errorf("Runes(%q) = %x, %v, want nothing", s, got, ok)
	}
}

// TestExample: the chapter's example.
func TestExample(t *testing.T) {
	holdWrong(t, "a\xe2\x82", 1)
}

func TestScalar(t *testing.T) {
	for _, r := range edges {
		if !Scalar(r) {
			t.Errorf("Scalar(%x) = false", r)
		}
	}
	for _, r := range none {
		if Scalar(r) {
			t.Errorf("Scalar(%x) = true", r)
		}
	}
	for r := rune(-0x120000); r <= 0x220000; r++ {
		if got := Scalar(r); got != isPoint(int64(r)) || got != utf8.ValidRune(r) {
			t.Errorf("Scalar(%x) = %v", r, got)
		}
	}
	// Numbers of all sizes.
	for high := int64(math.MinInt32); high <= math.MaxInt32; high += 4093 {
		if got := Scalar(rune(high)); got != isPoint(high) {
			t.Errorf("Scalar(%x) = %v", high, got)
		}
	}
}

// TestBytes: each code point's bytes, by itself, are those of the chapter's words; those of what is none are no text.
func TestBytes(t *testing.T) {
	for r := rune(0); r <= 0x10ffff; r++ {
		s := bytesOf(r)
		if !isPoint(int64(r)) {
			holdWrong(t, s, 0)
			continue
		}
		holdRight(t, s, []rune{r})
	}
	for r := rune(0x110000); r <= 0x1fffff; r++ {
		if s := bytesOf(r); Bad(s) != 0 {
			t.Errorf("Bad(%q) = %d, want 0", s, Bad(s))
		}
	}
}

func TestRight(t *testing.T) {
	cases := []struct {
		s    string
		list []rune
	}{
		{"", nil}, {"", []rune{}}, {"\x00", []rune{0}}, {"abc", []rune{'a', 'b', 'c'}}, {"\x00\x7f\r\n", []rune{0, 127, 13, 10}},
		{"é€😀", []rune{0xe9, 0x20ac, 0x1f600}}, {"\xef\xbf\xbd", []rune{0xfffd}}, {"\ufffd\ufffda", []rune{0xfffd, 0xfffd, 'a'}},
		{"\xef\xbb\xbf#", []rune{0xfeff, '#'}}, {"a\u0301", []rune{'a', 0x301}}, {"#,##0.00;(\u00a4#\u2030)", []rune{'#', ',', '#', '#', '0', '.', '0', '0', ';', '(', 0xa4, '#', 0x2030, ')'}},
		{"\u0661\u0662", []rune{0x661, 0x662}}, {"\U0010ffff\ue000\ud7ff", []rune{0x10ffff, 0xe000, 0xd7ff}},
	}
	for _, c := range cases {
		holdRight(t, c.s, c.list)
	}
	holdRight(t, strings.Repeat("😀\ufffdé", 5000), slices.Repeat([]rune{0x1f600, 0xfffd, 0xe9}, 5000))
}

// TestPairs: all edges behind one another, and behind a third one.
func TestPairs(t *testing.T) {
	for _, a := range edges {
		for _, b := range edges {
			holdRight(t, bytesOf(a)+bytesOf(b), []rune{a, b})
			holdRight(t, bytesOf(a)+bytesOf(b)+bytesOf(a), []rune{a, b, a})
		}
	}
}

// TestWrong: each of them is found behind right ones of all lengths, and whatever follows that can't mend it.
func TestWrong(t *testing.T) {
	for _, c := range wrong {
		holdWrong(t, c.s, c.at)
		for _, ahead := range edges {
			s := bytesOf(ahead)
			holdWrong(t, s+c.s, len(s)+c.at)
			holdWrong(t, s+c.s+s, len(s)+c.at)
		}
	}
	holdWrong(t, strings.Repeat("€", 5000)+"\xe2\x82", 15000)
}

// TestNone: one number that is no code point, wherever it stands, and Text answers nothing.
func TestNone(t *testing.T) {
	for _, r := range none {
		for _, list := range [][]rune{{r}, {'a', r}, {r, 'a'}, {0xfffd, r, 0xfffd}, {r, r}, {0xd83d, 0xde00, r}, append(slices.Clone(edges), r), append([]rune{r}, edges...)} {
			if got, ok := Text(list); ok || got != "" {
				t.Errorf("Text(%x) = %q, %v, want nothing", list, got, ok)
			}
		}
	}
}

// TestShort: all texts of up to two bytes, and those with a third one of any sort behind, against the chapter's words and the library.
func TestShort(t *testing.T) {
	holdRead(t, "")
	for a := range 256 {
		holdRead(t, string([]byte{byte(a)}))
		for b := range 256 {
			holdRead(t, string([]byte{byte(a), byte(b)}))
			for _, c := range sorts {
				holdRead(t, string([]byte{byte(a), byte(b), c}))
			}
		}
	}
}

// sorts are the ends of all sorts of bytes that there are.
var sorts = []byte{0, 'a', 0x7f, 0x80, 0x81, 0x8f, 0x90, 0x9f, 0xa0, 0xbd, 0xbf, 0xc0, 0xc1, 0xc2, 0xdf, 0xe0, 0xe1, 0xed, 0xef, 0xf0, 0xf1, 0xf4, 0xf5, 0xff}

// TestSorts: texts of four and five bytes of all sorts.
func TestSorts(t *testing.T) {
	for _, a := range sorts {
		for _, b := range sorts {
			for _, c := range sorts {
				for _, d := range sorts {
					holdRead(t, string([]byte{a, b, c, d}))
					holdRead(t, string([]byte{0xf1, a, b, c, d}))
				}
			}
		}
	}
}

// holdRead holds all that is told of s against the chapter's words, and the library.
func holdRead(t *testing.T, s string) {
	t.Helper()
	bad, count := read(s)
	if (bad < 0) != utf8.ValidString(s) {
		t.Fatalf("%q: the test reads it otherwise than the library", s)
	}
	if bad >= 0 {
		holdWrong(t, s, bad)
		return
	}
	list, _ := Runes(s)
	if len(list) != count {
		t.Errorf("Runes(%q) = %x, want %d", s, list, count)
	}
	holdRight(t, s, list)
	for at, n := 0, 0; n < len(list); n++ {
		if s[at:at+begins(s[at:])] != bytesOf(list[n]) {
			t.Errorf("Runes(%q) = %x", s, list)
		}
		at += begins(s[at:])
	}
}

// TestMemory: a list that is handed in is as it was, with its spare room; a text does not go with it, nor two lists with one another.
func TestMemory(t *testing.T) {
	for _, list := range [][]rune{{}, {'a'}, edges, {'a', -1}} {
		full := append(slices.Clone(list), 77, 77)
		want, _ := Text(list)
		got, _ := Text(full[:len(list)])
		if !slices.Equal(full[:len(list)], list) || full[len(list)] != 77 || full[len(list)+1] != 77 {
			t.Errorf("%x was changed to %x", list, full)
		}
		for i := range full {
			full[i] = 'z'
		}
		if got != want {
			t.Errorf("the text of %x goes with the list", list)
		}
	}
	s := "é€😀"
	a, _ := Runes(s)
	b, _ := Runes(s)
	for i := range a {
		a[i] = 'z'
	}
	if c, _ := Runes(s); s != "é€😀" || !slices.Equal(b, []rune{0xe9, 0x20ac, 0x1f600}) || !slices.Equal(b, c) {
		t.Errorf("two answers of Runes share memory: %x, %x", b, c)
	}
}
