package script

import (
	"encoding/hex"
	"fmt"
	"math"
	"math/big"
	"math/rand"
	"reflect"
	"regexp"
	"slices"
	"strings"
	"testing"
	"unsafe"

	"figurehead/api"
)

// empty is the line of a command without anything.
const empty = "0 0 0 0 0 x x x x x x x x x x x\n"

// full is a command with something else in each of its fields.
func full() api.Cmd {
	return api.Cmd{
		Kind: 2, M: -1, P: "#,##0", T: "é\x00",
		S: api.Symbols{Zero: 0x660, Decimal: ".", Group: ",", Minus: "-", Plus: "+", Percent: "%", Permille: "\u2030", Currency: "\xa4", E: "\xff\n"},
		D: api.Dec{Neg: true, Digits: "012", Exp: -7},
	}
}

const fullLine = "2 -1 1632 -7 1 x232c232330 xc3a900 x303132 x2e x2c x2d x2b x25 xe280b0 xa4 xff0a\n"

// shape is a line, as the chapter tells it; the library's own regular expressions know it.
var shape = regexp.MustCompile(`^(0|-?[1-9][0-9]*) (0|-?[1-9][0-9]*) (0|-?[1-9][0-9]*) (0|-?[1-9][0-9]*) ([01])` + strings.Repeat(` x((?:[0-9a-f][0-9a-f])*)`, 11) + `\n$`)

// within tells whether text is a number of so many bits.
func within(text string, bits uint) bool {
	n, ok := new(big.Int).SetString(text, 10)
	limit := new(big.Int).Lsh(big.NewInt(1), bits-1)
	return ok && n.Cmp(limit) < 0 && n.Cmp(new(big.Int).Neg(limit)) >= 0
}

// told is whether text is a command's line, by the chapter's words.
func told(text string) bool {
	m := shape.FindStringSubmatch(text)
	return m != nil && within(m[1], 64) && within(m[2], 64) && within(m[3], 32) && within(m[4], 64)
}

// lineOf is c's line, written by the library's own.
func lineOf(c api.Cmd) string {
	neg := 0
	if c.D.Neg {
		neg = 1
	}
	s := c.S
	return fmt.Sprintf("%d %d %d %d %d x%x x%x x%x x%x x%x x%x x%x x%x x%x x%x x%x\n", c.Kind, c.M, s.Zero, c.D.Exp, neg, c.P, c.T, c.D.Digits, s.Decimal, s.Group, s.Minus, s.Plus, s.Percent, s.Permille, s.Currency, s.E)
}

// holdGood holds that list is printed as its lines, and read back.
func holdGood(t *testing.T, list ...api.Cmd) {
	t.Helper()
	want := ""
	for _, c := range list {
		want += lineOf(c)
	}
	text := Print(list)
	if text != want {
		t.Errorf("Print(%+v) = %q, want %q", list, text, want)
	}
	holdRead(t, want, list...)
}

// holdRead holds that text is read as list.
func holdRead(t *testing.T, text string, list ...api.Cmd) {
	t.Helper()
	got, n, e := Parse(text)
	if !slices.Equal(got, list) || n != 0 || e != api.OK {
		t.Errorf("Parse(%q) = %+v, %d, %d, want %+v", text, got, n, e, list)
	}
}

// holdBad holds that text's first line that is no command's is that one.
func holdBad(t *testing.T, text string, line int) {
	t.Helper()
	if list, n, e := Parse(text); list != nil || n != line || e != api.ErrLine {
		t.Errorf("Parse(%q) = %+v, %d, %d, want line %d", text, list, n, e, line)
	}
}

// holdText holds any text against the words, line by line.
func holdText(t *testing.T, text string) {
	t.Helper()
	lines := strings.SplitAfter(text, "\n")
	if lines[len(lines)-1] == "" {
		lines = lines[:len(lines)-1]
	}
	bad := slices.IndexFunc(lines, func(line string) bool { return !told(line) })
	if bad >= 0 {
		holdBad(t, text, bad+1)
		return
	}
	list, n, e := Parse(text)
	if len(list) != len(lines) || n != 0 || e != api.OK || Print(list) != text {
		t.Errorf("Parse(%q) = %+v, %d, %d", text, list, n, e)
		return
	}
	for i, line := range lines {
		if lineOf(list[i]) != line {
			t.Errorf("%q is read as %+v", line, list[i])
		}
	}
}

// TestExamples: the chapter's example, and one with all fields.
func TestExamples(t *testing.T) {
	if got := Print([]api.Cmd{{}}); got != empty {
		t.Errorf("Print of an empty command = %q", got)
	}
	holdRead(t, empty, api.Cmd{})
	if got := Print([]api.Cmd{full(), {}, full()}); got != fullLine+empty+fullLine {
		t.Errorf("Print = %q", got)
	}
	holdRead(t, fullLine+empty+fullLine, full(), api.Cmd{}, full())
}

// TestNothing: no command has no line.
func TestNothing(t *testing.T) {
	if a, b := Print(nil), Print([]api.Cmd{}); a != "" || b != "" {
		t.Errorf("Print of nothing = %q, %q", a, b)
	}
	holdRead(t, "")
}

// TestHex: all bytes, alone and by twos, and all of them in a row.
func TestHex(t *testing.T) {
	for a := range 256 {
		holdHex(t, string([]byte{byte(a)}))
		for b := range 256 {
			holdHex(t, string([]byte{byte(a), byte(b)}))
		}
	}
	row := make([]byte, 5000)
	for i := range row {
		row[i] = byte(i * 7)
	}
	holdHex(t, string(row))
	holdHex(t, "")
	if got := Hex("\x00\x09\x0a\x0f\x10\x7f\x9a\xab\xff"); got != "00090a0f107f9aabff" {
		t.Errorf("Hex = %q", got)
	}
}

// holdHex holds Hex against the library's own, and that it is read back in a line.
func holdHex(t *testing.T, b string) {
	t.Helper()
	want := hex.EncodeToString([]byte(b))
	if got := Hex(b); got != want {
		t.Errorf("Hex(%q) = %q", b, got)
	}
	holdRead(t, strings.Replace(empty, "x", "x"+want, 1), api.Cmd{P: b})
}

// TestOrder: each field has its place, alone.
func TestOrder(t *testing.T) {
	for i, c := range []api.Cmd{
		{Kind: 1}, {M: 1}, {S: api.Symbols{Zero: 1}}, {D: api.Dec{Exp: 1}}, {D: api.Dec{Neg: true}},
		{P: "a"}, {T: "a"}, {D: api.Dec{Digits: "a"}}, {S: api.Symbols{Decimal: "a"}}, {S: api.Symbols{Group: "a"}}, {S: api.Symbols{Minus: "a"}}, {S: api.Symbols{Plus: "a"}}, {S: api.Symbols{Percent: "a"}}, {S: api.Symbols{Permille: "a"}}, {S: api.Symbols{Currency: "a"}}, {S: api.Symbols{E: "a"}},
	} {
		fields := strings.Split(strings.TrimSuffix(empty, "\n"), " ")
		fields[i] = map[bool]string{true: "1", false: "x61"}[i < 5]
		text := strings.Join(fields, " ") + "\n"
		if got := Print([]api.Cmd{c}); got != text {
			t.Errorf("Print(%+v) = %q, want %q", c, got, text)
		}
		holdRead(t, text, c)
	}
}

// TestNumbers: at their ends, and of all lengths, whatever they are to mean.
func TestNumbers(t *testing.T) {
	list := []int{0, 1, -1, 4, 5, 7, 8, 9, 10, -10, 99, 100, 1000, -1000, math.MaxInt32, math.MinInt32, math.MaxInt32 + 1, math.MaxUint32, math.MaxInt, math.MinInt, math.MaxInt - 1, math.MinInt + 1}
	for n := 1; n < math.MaxInt/10; n *= 10 {
		list = append(list, n, -n, n-1, 9*n)
	}
	for _, n := range list {
		holdGood(t, api.Cmd{Kind: n}, api.Cmd{M: n}, api.Cmd{D: api.Dec{Exp: n}}, api.Cmd{Kind: n, M: -n, D: api.Dec{Exp: n + 1}})
	}
	for _, r := range []rune{0, 1, -1, '0', 0x660, 0x10ffff, 0x110000, 0xd800, math.MaxInt32, math.MinInt32} {
		holdGood(t, api.Cmd{S: api.Symbols{Zero: r}})
	}
}

// TestWrongNumbers: what is no number, is written otherwise, or has more bits.
func TestWrongNumbers(t *testing.T) {
	fields := strings.Split(strings.TrimSuffix(fullLine, "\n"), " ")
	wrong := []string{"", "-", "+", "+1", "+0", "-0", "--1", "00", "01", "-01", "007", "0x1", "1_0", "1e3", "1.0", "1.", ".5", " 1", "a", "x", "x30", "\u0661", "\xff", "1\x00", "1\r", "\t1", "9223372036854775808", "-9223372036854775809", "18446744073709551615", "18446744073709551616", "-18446744073709551616", "1" + strings.Repeat("0", 5000), strings.Repeat("0", 5000)}
	for i := range 5 {
		own := wrong
		if i == 2 {
			own = append(slices.Clone(wrong), "2147483648", "-2147483649", "4294967295", "4294967296", "-4294967296", "9223372036854775807", "-9223372036854775808")
		}
		if i == 4 {
			own = append(slices.Clone(wrong), "2", "-1", "10", "11", "true", "false", "yes")
		}
		for _, text := range own {
			changed := slices.Clone(fields)
			changed[i] = text
			line := strings.Join(changed, " ") + "\n"
			if told(line) {
				t.Fatalf("%q is a line", line)
			}
			holdBad(t, line, 1)
			holdBad(t, fullLine+line+empty, 2)
		}
	}
}

// TestWrongTexts: without an x, with half a byte, with other digits.
func TestWrongTexts(t *testing.T) {
	fields := strings.Split(strings.TrimSuffix(fullLine, "\n"), " ")
	for i := 5; i < 16; i++ {
		for _, text := range []string{"", "0", "30", "X30", "x3", "x303", "x3G", "xg3", "xFF", "xfF", "xFf", "xAB", "xx30", "x30x", "x 30", "x-1", "x+1", "x0x30", "x3\xff", "x\u0663\u0660", "x30\x00", "x30\r", "x\t", "-x30", "0x30", "x/0", "x:0", "x`0", "x@0", "x0/", "x0:"} {
			changed := slices.Clone(fields)
			changed[i] = text
			line := strings.Join(changed, " ") + "\n"
			if told(line) {
				t.Fatalf("%q is a line", line)
			}
			holdBad(t, line, 1)
			holdBad(t, empty+fullLine+line+empty, 3)
		}
	}
	for a := range 256 {
		for b := range 256 {
			holdText(t, strings.Replace(empty, "x\n", "x"+string([]byte{byte(a), byte(b)})+"\n", 1))
		}
	}
}

// TestWrongFields: too few, too many, with other gaps, or with another end.
func TestWrongFields(t *testing.T) {
	bare := strings.TrimSuffix(fullLine, "\n")
	fields := strings.Split(bare, " ")
	for i := range fields {
		holdBad(t, strings.Join(slices.Delete(slices.Clone(fields), i, i+1), " ")+"\n", 1)
		holdBad(t, strings.Join(slices.Insert(slices.Clone(fields), i, "0"), " ")+"\n", 1)
		holdBad(t, strings.Join(slices.Insert(slices.Clone(fields), i, "x"), " ")+"\n", 1)
		holdBad(t, strings.Join(slices.Insert(slices.Clone(fields), i, ""), " ")+"\n", 1)
		holdBad(t, strings.Join(fields[:i], " ")+"\n", 1)
		holdBad(t, strings.Join(fields[:i+1], " "), 1)
	}
	for _, line := range []string{"\n", " \n", "x\n", "0\n", bare + " \n", bare + " x\n", " " + bare + "\n", bare + "\r\n", bare + "\x00\n", strings.ReplaceAll(bare, " ", "\t") + "\n", strings.ReplaceAll(bare, " ", "  ") + "\n", strings.ReplaceAll(bare, " ", "") + "\n", strings.ReplaceAll(bare, " ", "\u00a0") + "\n", "#" + bare + "\n", "\ufeff" + bare + "\n", bare + bare + "\n", bare + " " + bare + "\n", strings.Repeat(" ", 15) + "\n", strings.Repeat(" ", 100000) + "\n", strings.Repeat("0 ", 5) + strings.Repeat("x ", 11) + "\n"} {
		holdBad(t, line, 1)
		holdBad(t, line+line, 1)
		holdBad(t, fullLine+line, 2)
		holdBad(t, fullLine+line+empty, 2)
	}
}

// TestEnd: a line without its end is none, whatever stands ahead.
func TestEnd(t *testing.T) {
	bare := strings.TrimSuffix(fullLine, "\n")
	for n := range 50 {
		ahead := strings.Repeat(empty, n)
		holdBad(t, ahead+bare, n+1)
		holdBad(t, ahead+"x", n+1)
		holdBad(t, ahead+"\n", n+1)
		holdBad(t, ahead+"\n"+empty, n+1)
		holdBad(t, ahead+" "+empty+"\n\n", n+1)
		holdRead(t, ahead+fullLine, append(make([]api.Cmd, n), full())...)
	}
}

// TestFirst: the first one of several wrong lines counts.
func TestFirst(t *testing.T) {
	wrong := strings.Replace(fullLine, "x", "X", 1)
	for a := range 8 {
		for b := range 8 {
			lines := slices.Repeat([]string{fullLine}, 8)
			lines[a], lines[b] = wrong, wrong
			holdBad(t, strings.Join(lines, ""), min(a, b)+1)
			lines[max(a, b)] = "x"
			holdBad(t, strings.Join(lines, ""), min(a, b)+1)
		}
	}
}

// TestChanged: each byte of a line taken away, changed to each other one, and each one put in.
func TestChanged(t *testing.T) {
	for _, line := range []string{fullLine, empty, lineOf(api.Cmd{Kind: math.MaxInt, M: math.MinInt, S: api.Symbols{Zero: math.MinInt32}, D: api.Dec{Exp: math.MaxInt}})} {
		for i := range len(line) {
			for b := range 256 {
				one := string([]byte{byte(b)})
				holdText(t, line[:i]+one+line[i+1:])
				holdText(t, line[:i]+one+line[i:])
			}
			holdText(t, line[:i]+line[i+1:])
			holdText(t, line[:i])
			holdText(t, line[i:])
		}
	}
}

// TestRandom: lists of commands with texts of any bytes, and these with something changed.
func TestRandom(t *testing.T) {
	source := rand.New(rand.NewSource(25))
	text := func() string {
		b := make([]byte, source.Intn([]int{1, 2, 6, 300}[source.Intn(4)]))
		source.Read(b)
		return string(b)
	}
	number := func() int { return int(source.Uint64()) >> source.Intn(64) }
	for range 2000 {
		var list []api.Cmd
		for range source.Intn(6) {
			list = append(list, api.Cmd{
				Kind: number(), M: number(), P: text(), T: text(),
				S: api.Symbols{Zero: int32(source.Uint32()) >> source.Intn(32), Decimal: text(), Group: text(), Minus: text(), Plus: text(), Percent: text(), Permille: text(), Currency: text(), E: text()},
				D: api.Dec{Neg: source.Intn(2) == 0, Digits: text(), Exp: number()},
			})
		}
		holdGood(t, list...)
		holdText(t, changed(source, Print(list)))
	}
}

// changed is text with a few of its bytes changed.
func changed(source *rand.Rand, text string) string {
	const bytes = " \n0123456789abcdefgxAF-+\x00\xff"
	b := []byte(text)
	for range 1 + source.Intn(3) {
		if len(b) > 0 {
			b[source.Intn(len(b))] = bytes[source.Intn(len(bytes))]
		}
	}
	return string(b)
}

// TestAlone: each command is printed and read as if it were alone.
func TestAlone(t *testing.T) {
	list := []api.Cmd{full(), {}, {P: "\n"}, {T: " x"}, {Kind: -5}, full()}
	text := ""
	for _, c := range list {
		text += Print([]api.Cmd{c})
	}
	if got := Print(list); got != text {
		t.Errorf("Print = %q, one by one %q", got, text)
	}
	holdRead(t, text, list...)
}

// share tells whether two texts have a byte of memory in common.
func share(a, b string) bool {
	if a == "" || b == "" {
		return false
	}
	from, at := uintptr(unsafe.Pointer(unsafe.StringData(a))), uintptr(unsafe.Pointer(unsafe.StringData(b)))
	return from < at+uintptr(len(b)) && at < from+uintptr(len(a))
}

// textsOf are all texts of a command, found by their type.
func textsOf(v reflect.Value) []string {
	var list []string
	switch v.Kind() {
	case reflect.String:
		list = append(list, v.String())
	case reflect.Struct:
		for i := range v.NumField() {
			list = append(list, textsOf(v.Field(i))...)
		}
	}
	return list
}

// TestMemory: a list stays, its spare room, too; no two texts of an answer share memory, nor with what was handed in.
func TestMemory(t *testing.T) {
	room := []api.Cmd{full(), {P: "a"}, {P: "spare"}}
	list := room[:2]
	text := Print(list)
	if !slices.Equal(room, []api.Cmd{full(), {P: "a"}, {P: "spare"}}) || strings.Contains(text, Hex("spare")) {
		t.Errorf("Print makes %q, and leaves %+v", text, room)
	}
	if hexed := Hex(text); share(hexed, text) || share(text, Print(list)) || share(hexed, Hex(text)) {
		t.Error("an answer shares memory")
	}
	twice := text + text
	got, _, _ := Parse(twice)
	again, _, _ := Parse(twice)
	if len(got) != 4 || &got[0] == &again[0] {
		t.Fatalf("Parse(%q) = %+v", twice, got)
	}
	all := []string{twice}
	for _, c := range append(got, again...) {
		all = append(all, textsOf(reflect.ValueOf(c))...)
	}
	if len(all) != 1+8*11 {
		t.Fatalf("%d texts", len(all))
	}
	for i, a := range all {
		for _, b := range all[:i] {
			if share(a, b) {
				t.Errorf("%q and %q share memory", a, b)
			}
		}
	}
	got[0].P = "changed"
	if third, _, _ := Parse(twice); !slices.Equal(third, again) {
		t.Errorf("Parse(%q) = %+v, was %+v", twice, third, again)
	}
}

// TestLong: long texts and many lines.
func TestLong(t *testing.T) {
	holdGood(t, api.Cmd{P: strings.Repeat("\xab", 100000), T: strings.Repeat("9", 100001)})
	n := 20000
	if list, at, e := Parse(strings.Repeat(empty, n)); len(list) != n || at != 0 || e != api.OK {
		t.Errorf("%d commands, %d, %d", len(list), at, e)
	}
	holdBad(t, strings.Repeat(empty, n)+"\n"+empty, n+1)
	holdBad(t, strings.Repeat("\n", n), 1)
}
