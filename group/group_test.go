package group

import (
	"math"
	"math/rand"
	"slices"
	"strings"
	"testing"
	"unsafe"

	"figurehead/pattern"
)

// ends are sizes at the ends of int, and about them.
var ends = []int{math.MinInt, math.MinInt + 1, -1 << 32, -1 << 31, -2, -1, 0, 1, 2, 3, 255, 256, 1<<31 - 1, 1 << 31, 1 << 32, 1<<32 + 1, math.MaxInt - 1, math.MaxInt}

// odd are texts that are no digits, some no code points.
var odd = []string{"", "\x00", "\xff", "\xe2\x82", "a\xe2\x82", "\xed\xa0\x80", "\u0661\u0662\u0663\u0664", "‰¤€", "1,234.5", "-1", "'", ",,,,", "\n\n\n", "\U0001d7ce\U0001d7cf"}

// holdSplit holds what Split answers against want.
func holdSplit(t *testing.T, s string, primary, secondary int, want ...string) {
	t.Helper()
	if got := Split(s, primary, secondary); !slices.Equal(got, want) {
		t.Errorf("Split(%q, %d, %d) = %q, want %q", s, primary, secondary, got, want)
	}
}

// holdJoin holds what Join answers against want.
func holdJoin(t *testing.T, want, sep string, list ...string) {
	t.Helper()
	if got := Join(list, sep); got != want {
		t.Errorf("Join(%q, %q) = %q, want %q", list, sep, got, want)
	}
}

// holdWords holds what Split answers against each of the chapter's words, one by one.
func holdWords(t *testing.T, s string, primary, secondary int) {
	t.Helper()
	got := Split(s, primary, secondary)
	tell := func(what string) {
		t.Helper()
		t.Fatalf("Split(%q, %d, %d) = %q: %s", s, primary, secondary, got, what)
	}
	if strings.Join(got, "") != s {
		tell("not s in order")
	}
	if primary < 1 || len(s) <= primary {
		if len(got) != 1 {
			tell("not s alone")
		}
		return
	}
	if len(got) < 2 {
		tell("too few parts")
	}
	if secondary < 1 {
		secondary = primary
	}
	if len(got[len(got)-1]) != primary {
		tell("the last part")
	}
	for _, part := range got[1 : len(got)-1] {
		if len(part) != secondary {
			tell("a part between")
		}
	}
	if n := len(got[0]); n < 1 || n > secondary {
		tell("the first part")
	}
}

// byPlaces is s with a comma ahead of each byte that as many stand from on as are in full groups: another way to the same parts.
func byPlaces(s string, primary, secondary int) string {
	if secondary < 1 {
		secondary = primary
	}
	var out []byte
	for i := range len(s) {
		behind := len(s) - i - primary
		if i > 0 && primary > 0 && behind >= 0 && behind%secondary == 0 {
			out = append(out, ',')
		}
		out = append(out, s[i])
	}
	return string(out)
}

// digits are n bytes, 1 to 9 and 0, over and over.
func digits(n int) string {
	return strings.Repeat("1234567890", n/10+1)[:n]
}

// TestExamples: the chapter's example, and the document's that write groups.
func TestExamples(t *testing.T) {
	holdSplit(t, "1234567", 3, 2, "12", "34", "567")
	for _, x := range []struct{ text, s, want string }{
		{"#,##0.00;(#)", "1234", "1,234"},
		{"#,##,##0", "123456789", "12,34,56,789"},
		{"#,##0", "123456789", "123,456,789"},
		{"0", "123456789", "123456789"},
		{"#,####", "123456789", "1,2345,6789"},
		{"#,#", "1234", "1,2,3,4"},
		{"#,#,##", "1234", "1,2,34"},
	} {
		p, fault := pattern.Compile(x.text)
		if fault.E != 0 {
			t.Fatalf("%q is no pattern: %v", x.text, fault)
		}
		if got := Join(Split(x.s, p.Primary, p.Secondary), ","); got != x.want {
			t.Errorf("%s by %q: %q, want %q", x.s, x.text, got, x.want)
		}
	}
}

// TestSplit: full and partly full first parts, by like and unlike sizes.
func TestSplit(t *testing.T) {
	holdSplit(t, "1234567", 3, 3, "1", "234", "567")
	holdSplit(t, "12345678", 3, 3, "12", "345", "678")
	holdSplit(t, "123456789", 3, 3, "123", "456", "789")
	holdSplit(t, "123456789", 3, 2, "12", "34", "56", "789")
	holdSplit(t, "12345678", 3, 2, "1", "23", "45", "678")
	holdSplit(t, "123456789", 2, 4, "123", "4567", "89")
	holdSplit(t, "123456789", 1, 3, "12", "345", "678", "9")
	holdSplit(t, "123456789", 4, 1, "1", "2", "3", "4", "5", "6789")
	holdSplit(t, "12", 1, 1, "1", "2")
	holdSplit(t, "0000", 3, 3, "0", "000")
}

// TestSplitEdges: s as long as primary, a byte longer or shorter; what is ahead as long as secondary, a byte longer or shorter.
func TestSplitEdges(t *testing.T) {
	holdSplit(t, "12", 3, 3, "12")
	holdSplit(t, "123", 3, 3, "123")
	holdSplit(t, "1234", 3, 3, "1", "234")
	holdSplit(t, "123", 3, 1, "123")
	holdSplit(t, "1234", 3, 1, "1", "234")
	holdSplit(t, "1", 1, 1, "1")
	holdSplit(t, "1234", 3, 2, "1", "234")
	holdSplit(t, "12345", 3, 2, "12", "345")
	holdSplit(t, "123456", 3, 2, "1", "23", "456")
	holdSplit(t, "123456", 1, 5, "12345", "6")
	holdSplit(t, "1234567", 1, 5, "1", "23456", "7")
	holdSplit(t, "12345", 1, 5, "1234", "5")
	holdSplit(t, "12345", 1, math.MaxInt, "1234", "5")
}

// TestSplitAlone: s alone, empty too, without groups, or with room for all in the last one.
func TestSplitAlone(t *testing.T) {
	for _, secondary := range ends {
		for _, primary := range []int{0, -1, -3, -1 << 31, -1 << 32, -1<<32 + 3, math.MinInt, math.MinInt + 3} {
			holdSplit(t, "1234567", primary, secondary, "1234567")
			holdSplit(t, "", primary, secondary, "")
		}
		for _, primary := range []int{7, 8, 40, 1 << 31, 1 << 32, 1<<32 + 3, math.MaxInt} {
			holdSplit(t, "1234567", primary, secondary, "1234567")
			holdSplit(t, "", primary, secondary, "")
		}
	}
	holdSplit(t, "", 1, 1, "")
}

// TestSplitLikePrimary: secondary below 1 counts as primary.
func TestSplitLikePrimary(t *testing.T) {
	holdSplit(t, "1234", 3, 0, "1", "234")
	for _, secondary := range []int{0, -1, -2, -1 << 31, -1 << 32, -1<<32 + 2, math.MinInt, math.MinInt + 2} {
		holdSplit(t, "12345678", 3, secondary, "12", "345", "678")
		holdSplit(t, "123456789", 3, secondary, "123", "456", "789")
		holdSplit(t, "123", 1, secondary, "1", "2", "3")
		holdSplit(t, "12345", 4, secondary, "1", "2345")
	}
}

// TestSplitBytes: parts are counted in bytes, whatever these are.
func TestSplitBytes(t *testing.T) {
	holdSplit(t, "\u0661\u0662", 3, 3, "\xd9", "\xa1\xd9\xa2")
	holdSplit(t, "\xff\xfe\x00", 1, 1, "\xff", "\xfe", "\x00")
	holdSplit(t, "1,234", 2, 2, "1", ",2", "34")
	for _, s := range odd {
		for primary := range 20 {
			for secondary := range 20 {
				holdWords(t, s, primary, secondary)
			}
		}
	}
}

// TestSplitAll: all short texts by all small sizes, held against the words, and against another way to them.
func TestSplitAll(t *testing.T) {
	for n := range 64 {
		s := digits(n)
		for primary := -2; primary <= n+2; primary++ {
			for secondary := -2; secondary <= n+2; secondary++ {
				holdWords(t, s, primary, secondary)
				if got, want := Join(Split(s, primary, secondary), ","), byPlaces(s, primary, secondary); got != want {
					t.Fatalf("%s by %d, %d: %q, want %q", s, primary, secondary, got, want)
				}
			}
		}
	}
}

// TestSplitEnds: sizes at the ends of int.
func TestSplitEnds(t *testing.T) {
	for _, n := range []int{0, 1, 2, 3, 4, 255, 256, 257, 1000} {
		for _, primary := range ends {
			for _, secondary := range ends {
				holdWords(t, digits(n), primary, secondary)
			}
		}
	}
}

// TestSplitLong: long texts, whose every byte may be a part.
func TestSplitLong(t *testing.T) {
	s := digits(1 << 20)
	for _, x := range []struct{ primary, secondary int }{{1, 1}, {1, 0}, {3, 2}, {3, 3}, {2, 3}, {1 << 19, 1 << 19}, {1<<20 - 1, 1}, {1, 1<<20 - 1}, {1 << 20, 1}} {
		holdWords(t, s, x.primary, x.secondary)
	}
	if n := len(Split(s, 1, 1)); n != 1<<20 {
		t.Errorf("%d parts of a byte each, want %d", n, 1<<20)
	}
}

// TestJoin: no part, one, many; parts and separators that are empty.
func TestJoin(t *testing.T) {
	holdJoin(t, "1'234", "'", "1", "234")
	holdJoin(t, "12,34,56,789", ",", "12", "34", "56", "789")
	holdJoin(t, "", ",")
	holdJoin(t, "", ",", "")
	holdJoin(t, "123", ",", "123")
	holdJoin(t, ",", ",", "", "")
	holdJoin(t, ",,", ",", "", "", "")
	holdJoin(t, ",1,", ",", "", "1", "")
	holdJoin(t, "123", "", "1", "2", "3")
	holdJoin(t, "1, , 2", ", ", "1", "", "2")
	holdJoin(t, "1\u202f234", "\u202f", "1", "234")
	holdJoin(t, "\xff\x00\xfe", "\x00", "\xff", "\xfe")
	holdJoin(t, "1,,,2", ",", "1", ",", "2")
	if got := Join(nil, ","); got != "" {
		t.Errorf("Join(nil) = %q", got)
	}
	if got := Join([]string{}, ","); got != "" {
		t.Errorf("Join of an empty list = %q", got)
	}
}

// TestJoinAny: lists of any texts, with any separator.
func TestJoinAny(t *testing.T) {
	random := rand.New(rand.NewSource(20))
	some := func() string {
		return odd[random.Intn(len(odd))]
	}
	for range 20000 {
		list := make([]string, random.Intn(12))
		for i := range list {
			list[i] = some()
		}
		sep := some()
		if got, want := Join(list, sep), strings.Join(list, sep); got != want {
			t.Fatalf("Join(%q, %q) = %q, want %q", list, sep, got, want)
		}
	}
}

// TestThereAndBack: parts joined by nothing are the text; by a comma they are cut again at the commas.
func TestThereAndBack(t *testing.T) {
	random := rand.New(rand.NewSource(21))
	for range 20000 {
		s := digits(random.Intn(400))
		primary, secondary := random.Intn(45)-2, random.Intn(45)-2
		list := Split(s, primary, secondary)
		if got := Join(list, ""); got != s {
			t.Fatalf("%q by %d, %d: %q", s, primary, secondary, got)
		}
		if got := strings.Split(Join(list, ","), ","); !slices.Equal(got, list) {
			t.Fatalf("%q by %d, %d: %q, want %q", s, primary, secondary, got, list)
		}
	}
}

// share tells whether two texts have a byte of memory in common.
func share(a, b string) bool {
	if a == "" || b == "" {
		return false
	}
	from, at := uintptr(unsafe.Pointer(unsafe.StringData(a))), uintptr(unsafe.Pointer(unsafe.StringData(b)))
	return from < at+uintptr(len(b)) && at < from+uintptr(len(a))
}

// TestMemory: what is handed in stays, spare room too, and what is answered shares nothing with it, or with another answer.
func TestMemory(t *testing.T) {
	s := string([]byte("123456789"))
	for _, primary := range []int{-1, 0, 1, 3, 8, 9, 10} {
		first, second := Split(s, primary, 2), Split(s, primary, 2)
		for i, part := range first {
			if share(part, s) || share(part, second[i]) {
				t.Errorf("Split by %d: part %d shares memory", primary, i)
			}
		}
		first = append(first, "x")
		first[0] = "y"
		if third := Split(s, primary, 2); !slices.Equal(second, third) {
			t.Errorf("Split by %d: %q, then %q", primary, second, third)
		}
	}
	for _, list := range [][]string{{s}, {s, ""}, {"", s}, {"1", s}} {
		room := append(slices.Clone(list), "a", "b")
		if a, b := Join(room[:len(list)], s), Join(room[:len(list)], s); a != b || share(a, s) || share(a, b) {
			t.Errorf("Join(%q): %q, then %q, or they share memory", list, a, b)
		}
		if !slices.Equal(room, append(slices.Clone(list), "a", "b")) {
			t.Errorf("Join(%q) changed what it was given: %q", list, room)
		}
	}
	if one := Join([]string{s}, ","); share(one, s) {
		t.Error("Join of one part answers that part's memory")
	}
}
