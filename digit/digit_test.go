package digit

import (
	"math"
	"strings"
	"testing"
	"unicode/utf8"
)

// good are zeros of systems: known ones, those at the ends of what is a code point and of what takes more bytes, and those whose digits are others' digits, or fffd.
var good = []rune{
	0, 1, '\'', '/', '0', '1', '9', ':', 'a', 0x75, 0x76, 0x77, 0x7a, 0x7f, 0x80, 0xfa, 0x660, 0x6f0, 0x7f6, 0x7f7, 0x7fb, 0x7ff, 0x800, 0x966, 0x9e6, 0xe50,
	0xd7f5, 0xd7f6, 0xe000, 0xe001, 0xff10, 0xfff3, 0xfff4, 0xfff5, 0xfff9, 0xfffc, 0xfffd, 0xfffe, 0xfff6, 0xfff7, 0xffff, 0x10000, 0x104a0, 0x1d7ce, 0x1d7d8, 0x1fbf0, 0x10fff5, 0x10fff6,
}

// bad are zeros of no system: one of the ten, or all, are no code points.
var bad = []rune{
	-1, -2, -9, -10, -11, math.MinInt32, math.MinInt32 + '0', math.MinInt32 + 9, -0x10ffff,
	0xd7f7, 0xd7f8, 0xd7fe, 0xd7ff, 0xd800, 0xd801, 0xdabc, 0xdff6, 0xdff7, 0xdffe, 0xdfff,
	0x10fff7, 0x10fff8, 0x10fffe, 0x10ffff, 0x110000, 0x110030, 0x200030, 0x1000030, math.MaxInt32 - 10, math.MaxInt32 - 9, math.MaxInt32 - 8, math.MaxInt32 - 1, math.MaxInt32,
}

// isPoint tells whether n is a code point, by chapter 11's words.
func isPoint(n int64) bool {
	return 0 <= n && n <= 0x10ffff && !(0xd800 <= n && n <= 0xdfff)
}

// isSystem tells whether all ten from zero on are code points.
func isSystem(zero int64) bool {
	for n := zero; n <= zero+9; n++ {
		if !isPoint(n) {
			return false
		}
	}
	return true
}

// written are the digits of s in zero's system.
func written(zero rune, s string) string {
	out := ""
	for i := 0; i < len(s); i++ {
		out += string(zero + rune(s[i]-'0'))
	}
	return out
}

// begun is how many bytes the digits of zero's system have with which s begins, and what they are, taken off one by one.
func begun(zero rune, s string) (int, string) {
	at, digits := 0, ""
	for {
		found := false
		for n := range 10 {
			if one := string(zero + rune(n)); strings.HasPrefix(s[at:], one) {
				at, digits, found = at+len(one), digits+string(rune('0'+n)), true
				break
			}
		}
		if !found {
			return at, digits
		}
	}
}

// holdRead holds Run and Get of s against what is taken off one by one.
func holdRead(t *testing.T, zero rune, s string) {
	t.Helper()
	n, digits := begun(zero, s)
	if got := Run(zero, s); got != n {
		t.Errorf("Run(%x, %q) = %d, want %d", zero, s, got, n)
	}
	want, wantOK := digits, true
	if n == 0 || n < len(s) {
		want, wantOK = "", false
	}
	if got, ok := Get(zero, s); got != want || ok != wantOK {
		t.Errorf("Get(%x, %q) = %q, %v, want %q, %v", zero, s, got, ok, want, wantOK)
	}
}

// TestExample: the chapter's example, and back.
func TestExample(t *testing.T) {
	if s := Put(0x660, "12"); s != "\u0661\u0662" {
		t.Errorf("Put = %q", s)
	}
	if s, ok := Get(0x660, "\u0661\u0662"); s != "12" || !ok {
		t.Errorf("Get = %q, %v", s, ok)
	}
	if n := Run(0x660, "\u0661\u0662"); n != 4 {
		t.Errorf("Run = %d", n)
	}
}

func TestGood(t *testing.T) {
	for _, zero := range good {
		if !Good(zero) {
			t.Errorf("Good(%x) = false", zero)
		}
	}
	for _, zero := range bad {
		if Good(zero) {
			t.Errorf("Good(%x) = true", zero)
		}
	}
	for zero := int64(-0x1000); zero <= 0x112000; zero++ {
		if got := Good(rune(zero)); got != isSystem(zero) {
			t.Errorf("Good(%x) = %v", zero, got)
		}
	}
	// Numbers of all sizes.
	for zero := int64(math.MinInt32); zero <= math.MaxInt32; zero += 8191 {
		if got := Good(rune(zero)); got != isSystem(zero) {
			t.Errorf("Good(%x) = %v", zero, got)
		}
	}
}

// TestIs: of each system the ten are digits, and none of those about them, nor any whose lowest bits are a digit's.
func TestIs(t *testing.T) {
	for _, zero := range good {
		for r := zero - 300; r <= zero+300; r++ {
			if got := Is(zero, r); got != (r >= zero && r <= zero+9) {
				t.Errorf("Is(%x, %x) = %v", zero, r, got)
			}
		}
		for n := rune(0); n < 10; n++ {
			for _, far := range []rune{1 << 8, 1 << 16, 1 << 21, 1 << 24, math.MinInt32} {
				if Is(zero, zero+n+far) || Is(zero, zero+n-far) {
					t.Errorf("Is(%x, %x) = true, as of %x", zero, zero+n+far, zero+n)
				}
			}
		}
		for _, r := range []rune{-1, -zero - 1, -zero - 10, math.MinInt32, math.MinInt32 + 9, math.MaxInt32, math.MaxInt32 - 9} {
			if Is(zero, r) {
				t.Errorf("Is(%x, %x) = true", zero, r)
			}
		}
	}
}

// TestNoSystem: what is no system has no digits, not even those of its ten that are code points.
func TestNoSystem(t *testing.T) {
	for _, zero := range bad {
		for n := rune(-12); n <= 12; n++ {
			if Is(zero, zero+n) {
				t.Errorf("Is(%x, %x) = true", zero, zero+n)
			}
		}
		for _, r := range []rune{0, 8, '0', '9', 0xd7ff, 0xe000, 0xe008, 0xfffd, 0x10ffff} {
			if Is(zero, r) {
				t.Errorf("Is(%x, %x) = true", zero, r)
			}
		}
	}
}

// TestBack: what is put is what the system's digits are, and is got back; with anything behind, the digits end ahead of it.
func TestBack(t *testing.T) {
	list := []string{"0", "1", "9", "00", "10", "0190", "0123456789", "9876543210", "00000", strings.Repeat("9081726354", 500)}
	for _, zero := range good {
		for _, s := range list {
			text := written(zero, s)
			if got := Put(zero, s); got != text {
				t.Errorf("Put(%x, %q) = %q, want %q", zero, s, got, text)
			}
			if got, ok := Get(zero, text); got != s || !ok {
				t.Errorf("Get(%x, %q) = %q, %v, want %q, true", zero, text, got, ok, s)
			}
			if got := Run(zero, text); got != len(text) {
				t.Errorf("Run(%x, %q) = %d, want %d", zero, text, got, len(text))
			}
			if !utf8.ValidString(text) {
				t.Errorf("%q is no right text", text)
			}
		}
		if got := Put(zero, ""); got != "" {
			t.Errorf("Put(%x) of nothing is %q", zero, got)
		}
		if got, ok := Get(zero, ""); got != "" || ok {
			t.Errorf("Get(%x) of nothing is %q, %v", zero, got, ok)
		}
		if got := Run(zero, ""); got != 0 {
			t.Errorf("Run(%x) of nothing is %d", zero, got)
		}
	}
}

// TestPutOthers: one byte that is no digit 0 to 9, wherever it stands, and nothing is put: digits of other systems, the system's own among them.
func TestPutOthers(t *testing.T) {
	for _, zero := range good {
		for b := range 256 {
			one := string([]byte{byte(b)})
			if b >= '0' && b <= '9' {
				if got := Put(zero, one); got != written(zero, one) {
					t.Errorf("Put(%x, %q) = %q", zero, one, got)
				}
				continue
			}
			for _, s := range []string{one, "1" + one, one + "1", "12" + one + "34", one + one} {
				if got := Put(zero, s); got != "" {
					t.Errorf("Put(%x, %q) = %q, want nothing", zero, s, got)
				}
			}
		}
		for _, s := range []string{"\u0661", "1\u0661", "\u06612", "-1", "+1", "1.5", "1 ", " 1", "1e3", "1,000", "\uff11", "\ufffd", "\U0001d7cf", "\x00", "1\n", strings.Repeat("1", 5000) + "x"} {
			if got := Put(zero, s); got != "" {
				t.Errorf("Put(%x, %q) = %q, want nothing", zero, s, got)
			}
		}
	}
}

// TestReadOthers: anything that is no digit of the system ends the run, wherever it stands: what is just beside its digits, other systems' digits, and bytes that are no right text.
func TestReadOthers(t *testing.T) {
	others := []string{"0", "5", "9", "/", ":", "a", "\x00", ",", ".", "-", " ", "\u0665", "\u096c", "\uff15", "\U0001d7d3", "\ufffc", "\ufffd", "\ufffe", "\ufff3", "\U00010000", "\U0010ffff", "\ud7ff", "\ue000",
		"\x80", "\xbf", "\xc0", "\xff", "\xe0", "\xef", "\xef\xbf", "\xbd", "\xbf\xbd", "\xf0\x9d\x9f", "\xed\xa0\x80", "\xf4\x90\x80\x80", "\xc0\xb1", "\xe0\x80\xb1", "\xd9", "\xe0\xa5"}
	for _, zero := range good {
		for n := zero - 2; n <= zero+11; n++ {
			if isPoint(int64(n)) {
				others = append(others, string(n))
			}
		}
	}
	for _, zero := range good {
		digits := written(zero, "907")
		for _, s := range others {
			for _, text := range []string{s, s + digits, digits + s, digits + s + digits, s + s, digits + s + s} {
				holdRead(t, zero, text)
			}
		}
		// A digit that is cut short is none.
		for cut := range digits {
			holdRead(t, zero, digits[:cut])
		}
		for cut := range len(digits) {
			holdRead(t, zero, digits[cut:])
			holdRead(t, zero, digits[:cut])
			holdRead(t, zero, digits[:cut]+"x")
			holdRead(t, zero, digits[:cut]+digits)
		}
	}
}

// TestStandIn: in a system that has fffd, fffd is a digit, but bytes at which no code point begins are none.
func TestStandIn(t *testing.T) {
	for zero := rune(0xfff4); zero <= 0xfffd; zero++ {
		digit := string('0' + 0xfffd - zero)
		if got, ok := Get(zero, "\ufffd"); got != digit || !ok {
			t.Errorf("Get(%x) of fffd = %q, %v, want %q", zero, got, ok, digit)
		}
		if got, ok := Get(zero, "\ufffd\ufffd"); got != digit+digit || !ok {
			t.Errorf("Get(%x) of fffd twice = %q, %v", zero, got, ok)
		}
		for _, wrong := range []string{"\xff", "\x80", "\xef", "\xef\xbf", "\xbf\xbd", "\xed\xa0\x80", "\xf4\x90\x80\x80", "\xc0\x80"} {
			for ahead, n := range map[string]int{"": 0, "\ufffd": 3, "\ufffd\ufffd": 6} {
				if got := Run(zero, ahead+wrong+"\ufffd"); got != n {
					t.Errorf("Run(%x, %q) = %d, want %d", zero, ahead+wrong, got, n)
				}
				if got, ok := Get(zero, ahead+wrong); got != "" || ok {
					t.Errorf("Get(%x, %q) = %q, %v, want nothing", zero, ahead+wrong, got, ok)
				}
			}
		}
	}
}

// TestBytes: all texts of up to two bytes, in all the systems.
func TestBytes(t *testing.T) {
	for _, zero := range good {
		for a := range 256 {
			holdRead(t, zero, string([]byte{byte(a)}))
			for b := range 256 {
				holdRead(t, zero, string([]byte{byte(a), byte(b)}))
			}
		}
	}
}

func TestRunTable(t *testing.T) {
	cases := []struct {
		zero rune
		s    string
		want int
	}{
		{'0', "12,3", 2}, {'0', ",12", 0}, {'0', "x", 0}, {'0', "123", 3}, {'0', "1\u0661", 1}, {0x660, "1\u0661", 0}, {0x660, "\u0661\u06621", 4},
		{0x660, "\u0661\u066a", 2}, {0x660, "\u065f", 0}, {0x1d7ce, "\U0001d7ce\U0001d7d7\U0001d7d8", 8}, {'1', "19:0", 3}, {0, "\x00\x09\x0a", 2}, {0x7f6, "\u07f6\u07ff\u0800", 4}, {0x7fb, "\u07ff\u0800\u0805", 5},
	}
	for _, c := range cases {
		if got := Run(c.zero, c.s); got != c.want {
			t.Errorf("Run(%x, %q) = %d, want %d", c.zero, c.s, got, c.want)
		}
	}
}

// TestEnd: calls with what is no system, of which nothing is promised, end.
func TestEnd(t *testing.T) {
	for _, zero := range bad {
		for _, s := range []string{"", "0", "0123456789", "x", "\xff", "\ufffd", "\ud7ff\ue000", "\U0010ffff"} {
			Put(zero, s)
			Get(zero, s)
			Run(zero, s)
		}
	}
}
