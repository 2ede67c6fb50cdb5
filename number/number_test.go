package number

import (
	"math"
	"math/rand"
	"reflect"
	"regexp"
	"slices"
	"strings"
	"testing"

	"figurehead/api"
)

var (
	noughts     = regexp.MustCompile(`^\+?(0+)$`)
	allowed     = regexp.MustCompile(`^[#0-9@,.]*$`)
	wholeAts    = regexp.MustCompile(`^#*(@+)(#*)$`)
	wholeDigits = regexp.MustCompile(`^#*([0-9]*)$`)
	fracDigits  = regexp.MustCompile(`^([0-9]*)#*$`)
	digit       = regexp.MustCompile(`[0-9]`)
	notNought   = regexp.MustCompile(`[1-9]`)
	step        = regexp.MustCompile(`^[1-9][0-9]*$`)
)

// read is what the chapter's words make of s, error by error in their order.
func read(s string) (api.Pattern, api.Errno) {
	none := api.Pattern{}
	main, exp, sci := s, "", false
	if i := strings.IndexByte(s, 'E'); i >= 0 {
		main, exp, sci = s[:i], s[i+1:], true
		m := noughts.FindStringSubmatch(exp)
		if m == nil {
			return none, api.ErrNumber
		}
		if len(m[1]) > 9 {
			return none, api.ErrLong
		}
	}
	pieces := strings.Split(main, ".")
	if !allowed.MatchString(main) || len(pieces) > 2 || len(pieces) == 2 && pieces[1] == "" {
		return none, api.ErrNumber
	}
	whole, frac := pieces[0], strings.Join(pieces[1:], "")
	groups := strings.Split(whole, ",")
	if strings.Contains(frac, ",") || len(groups) > 1 && slices.Contains(groups, "") {
		return none, api.ErrGroup
	}
	if whole+frac == "" {
		return none, api.ErrNumber
	}
	bare, ats := strings.Join(groups, ""), strings.Contains(main, "@")
	if ats && (len(pieces) == 2 || digit.MatchString(whole)) {
		return none, api.ErrMix
	}
	if ats && !wholeAts.MatchString(bare) {
		return none, api.ErrNumber
	}
	if !ats && (!wholeDigits.MatchString(bare) || !fracDigits.MatchString(frac)) {
		return none, api.ErrNumber
	}
	if notNought.MatchString(main) && (strings.Contains(frac, "#") || sci) {
		return none, api.ErrMix
	}
	if sci && (len(groups) > 1 || ats && bare[0] == '#') {
		return none, api.ErrMix
	}
	p := api.Pattern{Sci: sci}
	if len(groups) > 1 {
		slices.Reverse(groups)
		p.Primary = len(groups[0])
		p.Secondary = p.Primary
		if len(groups) > 2 {
			p.Secondary = len(groups[1])
		}
	}
	if ats {
		m := wholeAts.FindStringSubmatch(bare)
		p.MinSig, p.MaxSig = len(m[1]), len(m[1]+m[2])
	} else {
		all := wholeDigits.FindStringSubmatch(bare)[1]
		p.MinInt = len(all)
		p.MinFrac, p.MaxFrac = len(fracDigits.FindStringSubmatch(frac)[1]), len(frac)
		if all += frac; notNought.MatchString(all) {
			p.Inc = all[notNought.FindStringIndex(all)[0]:]
		}
	}
	if sci {
		p.PlusExp, p.MinExp = exp[0] == '+', strings.Count(exp, "0")
		if !ats {
			p.MaxInt = len(bare)
		}
	}
	if slices.Max([]int{p.MinInt, p.MaxInt, p.MaxFrac, p.MaxSig, p.Primary, p.Secondary, len(p.Inc)}) > 40 {
		return none, api.ErrLong
	}
	return p, api.OK
}

// may tells by the chapter's words whether some text has p's fields.
func may(p api.Pattern) bool {
	for _, n := range []int{p.MinInt, p.MaxInt, p.MinFrac, p.MaxFrac, p.MinSig, p.MaxSig, p.Primary, p.Secondary, len(p.Inc)} {
		if n < 0 || n > 40 {
			return false
		}
	}
	switch {
	case p.MinFrac > p.MaxFrac || p.MinSig > p.MaxSig || (p.Primary == 0) != (p.Secondary == 0) || (p.MinSig == 0) != (p.MaxSig == 0):
		return false
	case p.MinSig > 0 && (p.MinInt > 0 || p.MaxInt > 0 || p.MaxFrac > 0 || p.Inc != ""):
		return false
	case p.Inc != "" && (!step.MatchString(p.Inc) || len(p.Inc) > p.MinInt+p.MinFrac || p.MinFrac < p.MaxFrac || p.Sci):
		return false
	case !p.Sci:
		return p.MaxInt == 0 && p.MinExp == 0 && !p.PlusExp
	}
	return p.Primary == 0 && p.MinExp > 0 && p.MinExp <= 9 && p.MinInt <= p.MaxInt && p.MaxInt+p.MaxFrac+p.MinSig > 0
}

// written is what the chapter's words make of fields that some text has: whole from its last character on.
func written(p api.Pattern, more int) string {
	least := 0
	switch {
	case p.Sci && p.MinSig == 0:
		least = p.MaxInt
	case p.Primary > 0 && p.Primary == p.Secondary:
		least = 1 + p.Primary
	case p.Primary > 0:
		least = 1 + p.Primary + p.Secondary
	case p.MaxFrac == 0:
		least = 1
	}
	least = max(least, p.MinInt, p.MaxSig)
	if !p.Sci && more > 0 {
		least += more
	}
	step := []byte(strings.Repeat("0", 80-len(p.Inc)) + p.Inc)
	digits, frac := step[:80-p.MinFrac], step[80-p.MinFrac:]
	var out []byte
	for i := range least {
		if i > 0 && (i == p.Primary || p.Primary != p.Secondary && i == p.Primary+p.Secondary) {
			out = append(out, ',')
		}
		switch {
		case i < p.MinInt:
			out = append(out, digits[len(digits)-1-i])
		case p.MinSig > 0 && i >= p.MaxSig-p.MinSig && i < p.MaxSig:
			out = append(out, '@')
		default:
			out = append(out, '#')
		}
	}
	slices.Reverse(out)
	text := string(out)
	if p.MaxFrac > 0 {
		text += "." + string(frac) + strings.Repeat("#", p.MaxFrac-p.MinFrac)
	}
	if p.Sci {
		text += "E" + map[bool]string{true: "+"}[p.PlusExp] + strings.Repeat("0", p.MinExp)
	}
	return text
}

// holdParse holds Parse of s against the chapter's words.
func holdParse(t *testing.T, s string) (api.Pattern, bool) {
	t.Helper()
	want, wantErrno := read(s)
	p, errno := Parse(s)
	if errno != wantErrno || !reflect.DeepEqual(p, want) {
		t.Errorf("Parse(%q) = %+v, %d, want %+v, %d", s, p, errno, want, wantErrno)
	}
	return want, wantErrno == api.OK
}

// holdPrint holds Print of fields that some text has against the chapter's words, and Parse of that against the fields.
func holdPrint(t *testing.T, p api.Pattern, more int) {
	t.Helper()
	text := Print(p, more)
	if want := written(p, more); text != want {
		t.Errorf("Print(%+v, %d) = %q, want %q", p, more, text, want)
	}
	if back, errno := Parse(text); errno != api.OK || !reflect.DeepEqual(back, p) {
		t.Errorf("Parse(%q) = %+v, %d, want %+v", text, back, errno, p)
	}
}

// holdLeast holds that no # ahead can be left out of Print of fields that some text has.
func holdLeast(t *testing.T, p api.Pattern) {
	t.Helper()
	text := Print(p, 0)
	if less, ok := strings.CutPrefix(text, "#"); ok {
		if back, errno := Parse(strings.TrimPrefix(less, ",")); errno == api.OK && reflect.DeepEqual(back, p) {
			t.Errorf("Print(%+v, 0) = %q: one # less tells the same", p, text)
		}
	}
}

// hold holds Parse of s against the chapter's words, and, if it is a number part, Print of its fields.
func hold(t *testing.T, s string) {
	t.Helper()
	p, ok := holdParse(t, s)
	if !ok {
		return
	}
	for _, more := range []int{math.MinInt, -1, 0, 1, 2, 7} {
		holdPrint(t, p, more)
	}
	holdLeast(t, p)
}

// texts calls do with all texts of up to n of the characters.
func texts(characters string, n int, do func(string)) {
	do("")
	row := []string{""}
	for range n {
		var longer []string
		for _, s := range row {
			for _, c := range []byte(characters) {
				longer = append(longer, s+string(rune(c)))
				do(s + string(rune(c)))
			}
		}
		row = longer
	}
}

// TestExample: the chapter's example, and back.
func TestExample(t *testing.T) {
	p, errno := Parse("#,##0.00#")
	if want := (api.Pattern{Primary: 3, Secondary: 3, MinInt: 1, MinFrac: 2, MaxFrac: 3}); errno != api.OK || !reflect.DeepEqual(p, want) {
		t.Errorf("Parse = %+v, %d", p, errno)
	}
	if text := Print(p, 0); text != "#,##0.00#" {
		t.Errorf("Print = %q", text)
	}
}

func TestParseTable(t *testing.T) {
	cases := []struct {
		s    string
		want api.Pattern
	}{
		{"#", api.Pattern{}},
		{"####", api.Pattern{}},
		{"0", api.Pattern{MinInt: 1}},
		{"##000", api.Pattern{MinInt: 3}},
		{".0", api.Pattern{MinFrac: 1, MaxFrac: 1}},
		{".#", api.Pattern{MaxFrac: 1}},
		{"#.##", api.Pattern{MaxFrac: 2}},
		{"0.00##", api.Pattern{MinInt: 1, MinFrac: 2, MaxFrac: 4}},
		{"#,#", api.Pattern{Primary: 1, Secondary: 1}},
		{"0,0", api.Pattern{MinInt: 2, Primary: 1, Secondary: 1}},
		{"#,##,##0", api.Pattern{MinInt: 1, Primary: 3, Secondary: 2}},
		{"#,####,##,000", api.Pattern{MinInt: 3, Primary: 3, Secondary: 2}},
		{"#,##,####", api.Pattern{Primary: 4, Secondary: 2}},
		{"##0,0000,000", api.Pattern{MinInt: 8, Primary: 3, Secondary: 4}},
		{"@", api.Pattern{MinSig: 1, MaxSig: 1}},
		{"##@@###", api.Pattern{MinSig: 2, MaxSig: 5}},
		{"#,@@#", api.Pattern{MinSig: 2, MaxSig: 3, Primary: 3, Secondary: 3}},
		{"@,@,##", api.Pattern{MinSig: 2, MaxSig: 4, Primary: 2, Secondary: 1}},
		{"5", api.Pattern{MinInt: 1, Inc: "5"}},
		{"#50", api.Pattern{MinInt: 2, Inc: "50"}},
		{"00.050", api.Pattern{MinInt: 2, MinFrac: 3, MaxFrac: 3, Inc: "50"}},
		{".25", api.Pattern{MinFrac: 2, MaxFrac: 2, Inc: "25"}},
		{"#,#10.00", api.Pattern{MinInt: 2, MinFrac: 2, MaxFrac: 2, Primary: 3, Secondary: 3, Inc: "1000"}},
		{"1,2,34", api.Pattern{MinInt: 4, Primary: 2, Secondary: 1, Inc: "1234"}},
		{"9876543210", api.Pattern{MinInt: 10, Inc: "9876543210"}},
		{"0E0", api.Pattern{MinInt: 1, MaxInt: 1, Sci: true, MinExp: 1}},
		{"#E0", api.Pattern{MaxInt: 1, Sci: true, MinExp: 1}},
		{"##0.0#E+00", api.Pattern{MinInt: 1, MaxInt: 3, MinFrac: 1, MaxFrac: 2, Sci: true, MinExp: 2, PlusExp: true}},
		{".00E000000000", api.Pattern{MinFrac: 2, MaxFrac: 2, Sci: true, MinExp: 9}},
		{"@@##E+0", api.Pattern{MinSig: 2, MaxSig: 4, Sci: true, MinExp: 1, PlusExp: true}},
	}
	for _, c := range cases {
		if p, errno := Parse(c.s); errno != api.OK || !reflect.DeepEqual(p, c.want) {
			t.Errorf("Parse(%q) = %+v, %d, want %+v", c.s, p, errno, c.want)
		}
		hold(t, c.s)
	}
}

// TestErrors: each error, and which of several is the first.
func TestErrors(t *testing.T) {
	at41, nought41, hash41 := strings.Repeat("@", 41), strings.Repeat("0", 41), strings.Repeat("#", 41)
	cases := []struct {
		want  api.Errno
		texts []string
	}{
		// What stands behind an E, ahead of all else.
		{api.ErrNumber, []string{"E", "0E", "0E+", "0E#", "0E1", "0E01", "0E-0", "0E++0", "0E0+", "0E+0+", "0E0 ", "0E 0", "0E0.0", "0E0,0", "0E@", "0EE0", "0E0E0", "0E0E0000000000", "0E0000000000x", "0E0000000000E0", "0E\xff", "0E٠"}},
		{api.ErrNumber, []string{",E", "@.0E", "0.5#E", "#,#E", nought41 + "E1"}},
		{api.ErrLong, []string{"0E0000000000", "0E+0000000000", "E0000000000", "xE0000000000", ".E0000000000", ",0E0000000000", "@0E0000000000", "0#E0000000000", "5E0000000000", "#,#E0000000000", "#@E0000000000"}},
		// Characters and points, ahead of commas.
		{api.ErrNumber, []string{"x", " 0", "0 ", "0\x00", "-0", "0+", "0e0", "0%", "'0'", "0;0", "*0", "\xff", "0\x80", "\ufffd", "٠", "０", "#\u00a40", "0.x", "xE0", "#/0", "0:"}},
		{api.ErrNumber, []string{"0.0.0", "..", "0..0", ".0.", "#.#.E0", ".", "0.", "#.", "@.", ".E0", "0.E+0"}},
		{api.ErrNumber, []string{",x", "0,,x", ",.", "0,.", ",0.0.0", "0.0,0.0", "@0x", "5.#x", "#,0xE0", nought41 + "x", nought41 + ".", "5.#.#"}},
		// Commas, ahead of what is nothing, of an @, of order, of a step.
		{api.ErrGroup, []string{",", ",,", ",0", "0,", "#,", ",#", ",@", "@,", "0,,0", "#,,,#", ",E0", ",.0", "0,.0", "0.,", "0.0,", "0.,0", "0.0,0", ".#,#", "0,000.00,0"}},
		{api.ErrGroup, []string{",@.0", "@0,", "@,,#@", "0#,", "5,.#", "5,E0", "0.,#@", ",#@E0", ",0#", "0.#,0", "," + nought41, "#,," + hash41}},
		// Nothing.
		{api.ErrNumber, []string{"", "E0", "E+000"}},
		// What stands about an @, ahead of the order of digits and #, of what doesn't go with an E, and of what is too long.
		{api.ErrMix, []string{"@.0", "@.#", "@.@", ".@", "#.@", "0.@", "@0", "0@", "@5", "#0@", "0,@", "@,0", "#@#0", "@#@0", "@#@.0", "@#0@", "0#@", "5@.#", "@0E0", "#@0E0", "@,@.0E0", at41 + "0", at41 + ".0"}},
		{api.ErrNumber, []string{"@#@", "#@#@", "@##@@", "@,#,@", "#@,#@#", "@#@E0", "#@#@E0", "@,#@E0", at41 + "#@"}},
		// The order of digits and #.
		{api.ErrNumber, []string{"0#", "0#0", "#0#", "0,#", "#,0#", "0.#0", ".0#0", ".#0", "0#.0", "5#", "0.#5", "5.#5", "0#E0", ".#0E0", "0,#E0", "5#.#", "5#E0", nought41 + "#"}},
		// What doesn't go with a step.
		{api.ErrMix, []string{"0.5#", "5.#", "5.0#", ".1#", "#5.#", "#,#50.0#", "5E0", "0.5E0", "#9E+0", "0.5#E0", "1,0E0", nought41 + ".5#", nought41 + "5E0"}},
		// What doesn't go with an E.
		{api.ErrMix, []string{"#,#E0", "0,0E0", "#,##0.0E0", "@,@E0", "#@E0", "##@@#E+0", "#,@E0", "#@,@E0", "#," + nought41 + "E0", "#" + at41 + "E0"}},
	}
	for _, c := range cases {
		for _, s := range c.texts {
			if p, errno := Parse(s); errno != c.want || !reflect.DeepEqual(p, api.Pattern{}) {
				t.Errorf("Parse(%q) = %+v, %d, want %d alone", s, p, errno, c.want)
			}
			hold(t, s)
		}
	}
}

// TestLong: 40 of each may be, 41 not; of what is not counted, any number.
func TestLong(t *testing.T) {
	n := strings.Repeat
	for _, k := range []int{1, 9, 10, 11, 38, 39, 40, 41, 42, 79, 80, 81, 1000} {
		want, wide := api.OK, api.OK
		if k > 40 {
			want = api.ErrLong
		}
		if k > 9 {
			wide = api.ErrLong
		}
		counted := []string{
			n("0", k), "##" + n("0", k), n("0", k) + ".0", n("0", k) + "E0", n("#", k) + "E0", "#" + n("0", k-1) + "E+0",
			"." + n("0", k), "#." + n("#", k), "0.0" + n("#", k-1), "." + n("#", k) + "E0",
			n("@", k), "@" + n("#", k-1), "##" + n("@", k), n("@", k) + "E0", "@" + n("#", k-1) + "E+00",
			"#," + n("#", k), "#,#," + n("#", k), "#," + n("#", k) + ",#", "#," + n("#", k) + ",@",
			"5" + n("0", k-1), "." + n("0", k-1) + "5", n("1", k), "." + n("9", k),
		}
		for _, s := range counted {
			if _, errno := Parse(s); errno != want {
				t.Errorf("Parse(%q) = %d, want %d", s, errno, want)
			}
			hold(t, s)
		}
		for _, s := range []string{"0E" + n("0", k), "#E+" + n("0", k), "@E" + n("0", k)} {
			if _, errno := Parse(s); errno != wide {
				t.Errorf("Parse(%q) = %d, want %d", s, errno, wide)
			}
			hold(t, s)
		}
		for _, s := range []string{n("#", k), n("#", k) + "0", n("#", k) + ".0", n("#", k) + "@", n("#", k) + ",#", n("#", k) + ",#,#", n("#,", k) + "#"} {
			if _, errno := Parse(s); errno != api.OK {
				t.Errorf("Parse(%q) = %d", s, errno)
			}
			hold(t, s)
		}
	}
}

// TestLongStep: it is the step's digits that are counted, not the noughts ahead.
func TestLongStep(t *testing.T) {
	n := strings.Repeat
	for whole := range 42 {
		for frac := range 42 {
			for _, one := range []int{0, 1, whole - 1, whole, whole + 1, whole + frac - 41, whole + frac - 40, whole + frac - 1} {
				if one < 0 || one >= whole+frac {
					continue
				}
				all := n("0", one) + "7" + n("0", whole+frac-one-1)
				s := all[:whole]
				if frac > 0 {
					s += "." + all[whole:]
				}
				want := api.OK
				if whole > 40 || frac > 40 || whole+frac-one > 40 {
					want = api.ErrLong
				}
				if _, errno := Parse(s); errno != want {
					t.Errorf("Parse(%q) = %d, want %d", s, errno, want)
				}
				hold(t, s)
			}
		}
	}
}

// TestParseAll: all short texts of all sorts of characters, longer ones of a few, and all of two bytes.
func TestParseAll(t *testing.T) {
	count := 0
	do := func(s string) {
		hold(t, s)
		count++
	}
	texts("#05@,.E+x", 5, do)
	texts("#0,.", 8, do)
	texts("#@,E0", 7, do)
	texts("#07.", 8, do)
	texts("#0.E+", 7, do)
	for a := range 256 {
		for b := range 256 {
			for _, s := range []string{string([]byte{byte(a), byte(b)}), "0E" + string([]byte{byte(a), byte(b)}), "#," + string([]byte{byte(a)}) + "." + string([]byte{byte(b)})} {
				do(s)
			}
		}
	}
	if count < 600000 {
		t.Errorf("only %d texts", count)
	}
}

// TestParseRandom: long texts that are number parts, and these with one character more, less or another.
func TestParseRandom(t *testing.T) {
	source := rand.New(rand.NewSource(15))
	n := func(s string, most int) string { return strings.Repeat(s, source.Intn(most+1)) }
	group := func(s string) string {
		for range source.Intn(4) {
			if i := source.Intn(len(s) + 1); i > 0 && i < len(s) {
				s = s[:i] + "," + s[i:]
			}
		}
		return s
	}
	for range 20000 {
		s := ""
		switch source.Intn(4) {
		case 0:
			s = group(n("#", 44)+n("0", 44)) + "." + n("0", 44) + n("#", 30)
		case 1:
			s = group(n("#", 44) + n("@", 44) + n("#", 30))
		case 2:
			s = n("#", 20) + n("0", 30) + "." + n("0", 20) + n("#", 30) + "E" + n("+", 1) + n("0", 11)
		case 3:
			s = group(n("#", 5)+n("0", 10)+n("5", 3)+n("0", 10)) + "." + n("0", 20) + n("3", 2) + n("0", 15)
		}
		s = strings.TrimSuffix(s, ".")
		hold(t, s)
		at, c := source.Intn(len(s)+1), string("#015@,.E+x"[source.Intn(10)])
		hold(t, s[:at]+c+s[at:])
		if at < len(s) {
			hold(t, s[:at]+c+s[at+1:])
			hold(t, s[:at]+s[at+1:])
		}
	}
}

func TestPrintTable(t *testing.T) {
	cases := []struct {
		s    string
		more int
		want string
	}{
		{"#", 0, "#"},
		{"####", 0, "#"},
		{"#", 2, "###"},
		{"#", -3, "#"},
		{"000", 0, "000"},
		{"##000", 1, "#000"},
		{".0", 0, ".0"},
		{"##.0", 0, ".0"},
		{".0", 1, "#.0"},
		{"##.#", 0, ".#"},
		{"#,#", 0, "#,#"},
		{"###,##0", 0, "#,##0"},
		{"###,###,##0", 0, "#,##0"},
		{"#,##0", 1, "##,##0"},
		{"#,##0", 4, "#####,##0"},
		{"0,000,000", 0, "0000,000"},
		{"0,000,000", 1, "#0000,000"},
		{"##,##,##0", 0, "#,##,##0"},
		{"0000,00,000", 0, "0000,00,000"},
		{"00,000", 0, "00,000"},
		{"#,##,##0.05", 2, "###,##,##0.05"},
		{"#,####.##", 0, "#,####.##"},
		{"##@@#", 0, "@@#"},
		{"@@#", 2, "##@@#"},
		{"#,@@#", 0, "#,@@#"},
		{"#,###,@@#", 0, "#,@@#"},
		{"@,@@@", 0, "@,@@@"},
		{"#,#,@@", 0, "#,#,@@"},
		{"@@@@,@,@@", 3, "###@@@@,@,@@"},
		{"#5", 0, "5"},
		{"005", 0, "005"},
		{"#00.050", 0, "00.050"},
		{".25", 0, ".25"},
		{"12.50", 1, "#12.50"},
		{"1,2,34", 0, "1,2,34"},
		{"##,#50", 0, "#,#50"},
		{"##0.##E0", 0, "##0.##E0"},
		{"##0.##E0", 5, "##0.##E0"},
		{"##0.##E0", math.MaxInt, "##0.##E0"},
		{"#E+000", 0, "#E+000"},
		{".#E0", 9, ".#E0"},
		{"00E+00", -1, "00E+00"},
		{"@@#E0", 3, "@@#E0"},
		{"@E000000000", 0, "@E000000000"},
	}
	for _, c := range cases {
		p, errno := Parse(c.s)
		if text := Print(p, c.more); errno != api.OK || text != c.want {
			t.Errorf("Print of %q, %d = %q, want %q", c.s, c.more, text, c.want)
		}
	}
}

// full is a pattern with something in each field.
func full() api.Pattern {
	return api.Pattern{
		Prefix: []api.Item{{Kind: api.Lit, R: 'a'}}, Suffix: []api.Item{{Kind: api.Percent}}, HasNeg: true,
		NegPrefix: []api.Item{{Kind: api.Minus}}, NegSuffix: []api.Item{{Kind: api.Plus}},
		MinInt: 1, MaxInt: 2, MinFrac: 3, MaxFrac: 4, MinSig: 5, MaxSig: 6, Primary: 7, Secondary: 8,
		Inc: "9", Sci: true, MinExp: 10, PlusExp: true, PadAt: api.AfterPrefix, Pad: 'x', Width: 11,
	}
}

// TestFields: the fields of the number part stay as they are, whatever they are; all others are empty.
func TestFields(t *testing.T) {
	want := api.Pattern{
		MinInt: 1, MaxInt: 2, MinFrac: 3, MaxFrac: 4, MinSig: 5, MaxSig: 6, Primary: 7, Secondary: 8,
		Inc: "9", Sci: true, MinExp: 10, PlusExp: true,
	}
	if got := Fields(full()); !reflect.DeepEqual(got, want) {
		t.Errorf("Fields = %+v, want %+v", got, want)
	}
	odd := api.Pattern{MinInt: math.MinInt, MaxInt: math.MaxInt, MinFrac: -1, MaxFrac: -2, MinSig: -3, MaxSig: 41, Primary: -4, Secondary: 1000, Inc: "\xffx", MinExp: -5}
	for _, p := range []api.Pattern{{}, odd, want} {
		if got := Fields(p); !reflect.DeepEqual(got, p) {
			t.Errorf("Fields(%+v) = %+v", p, got)
		}
	}
}

// TestFieldsOfParsed: what Parse answers has these fields alone, and Print goes by these alone.
func TestFieldsOfParsed(t *testing.T) {
	for _, s := range []string{"#", "#,##,##0.05", "@@#", "##0.0#E+00", "#,##0.00#", "@E0"} {
		p, errno := Parse(s)
		if errno != api.OK || !reflect.DeepEqual(Fields(p), p) {
			t.Errorf("Fields(%+v) = %+v", p, Fields(p))
		}
		whole := full()
		whole.MinInt, whole.MaxInt, whole.MinFrac, whole.MaxFrac, whole.MinSig, whole.MaxSig = p.MinInt, p.MaxInt, p.MinFrac, p.MaxFrac, p.MinSig, p.MaxSig
		whole.Primary, whole.Secondary, whole.Inc, whole.Sci, whole.MinExp, whole.PlusExp = p.Primary, p.Secondary, p.Inc, p.Sci, p.MinExp, p.PlusExp
		if !reflect.DeepEqual(Fields(whole), p) {
			t.Errorf("Fields(%+v) = %+v, want %+v", whole, Fields(whole), p)
		}
		for more := range 4 {
			if text := Print(whole, more); text == "" || text != Print(p, more) {
				t.Errorf("Print of the whole pattern = %q, of its fields %q", text, Print(p, more))
			}
		}
	}
}

// TestPrintAll: all fields of small numbers: what some text has is written, and of all else there is nothing.
func TestPrintAll(t *testing.T) {
	good := 0
	var p api.Pattern
	each := func(field *int, values []int, do func()) {
		for _, *field = range values {
			do()
		}
	}
	try := func() {
		if may(p) {
			good++
			holdPrint(t, p, 0)
			holdPrint(t, p, 3)
			holdLeast(t, p)
			return
		}
		if text := Print(p, 0) + Print(p, 3); text != "" {
			t.Errorf("Print(%+v) = %q, want nothing", p, text)
		}
	}
	small := []int{0, 1, 3}
	sizes := func() {
		each(&p.Primary, small, func() { each(&p.Secondary, []int{0, 1, 2, 3}, try) })
	}
	exponents := func() {
		for _, p.Sci = range []bool{false, true} {
			for _, p.PlusExp = range []bool{false, true} {
				each(&p.MinExp, []int{0, 1, 9, 10}, sizes)
			}
		}
	}
	significant := func() {
		each(&p.MinSig, small, func() { each(&p.MaxSig, small, exponents) })
	}
	fractions := func() {
		each(&p.MinFrac, small, func() { each(&p.MaxFrac, small, significant) })
	}
	for _, p.Inc = range []string{"", "0", "5", "05", "750", "1234", "x", "5#"} {
		each(&p.MinInt, []int{0, 1, 2}, func() { each(&p.MaxInt, small, fractions) })
	}
	if good < 300 {
		t.Errorf("only %d are written", good)
	}
}

// TestPrintLimits: 40 of each there may be.
func TestPrintLimits(t *testing.T) {
	most := []api.Pattern{
		{MinInt: 40}, {MaxFrac: 40}, {MinInt: 40, MinFrac: 40, MaxFrac: 40}, {MinSig: 1, MaxSig: 40}, {MinSig: 40, MaxSig: 40},
		{Primary: 40, Secondary: 40}, {Primary: 40, Secondary: 1}, {Primary: 1, Secondary: 40}, {Primary: 39, Secondary: 40, MinInt: 40, MaxFrac: 1},
		{MinInt: 40, MinFrac: 40, MaxFrac: 40, Inc: strings.Repeat("9", 40)}, {MinInt: 40, Inc: "1" + strings.Repeat("0", 39)},
		{MinInt: 20, MinFrac: 20, MaxFrac: 20, Inc: strings.Repeat("12", 20)}, {MinInt: 1, MinFrac: 40, MaxFrac: 40, Inc: "1"},
		{Sci: true, MaxInt: 40, MinExp: 9}, {Sci: true, MinInt: 40, MaxInt: 40, MinFrac: 40, MaxFrac: 40, MinExp: 9, PlusExp: true},
		{Sci: true, MinSig: 40, MaxSig: 40, MinExp: 1}, {Sci: true, MaxFrac: 40, MinExp: 1}, {MinSig: 40, MaxSig: 40, Primary: 40, Secondary: 40},
	}
	for _, p := range most {
		if !may(p) {
			t.Errorf("%+v may not be", p)
		}
		for _, more := range []int{-1, 0, 1, 39, 40, 41, 1000} {
			holdPrint(t, p, more)
		}
		holdLeast(t, p)
	}
}

// TestPrintNone: of what no text has there is nothing, however great or small the numbers are.
func TestPrintNone(t *testing.T) {
	seen := 0
	for _, s := range []string{"#", "0", "#,##,##0.05", "@@#", "##0.0#E+00", "@E0", "." + strings.Repeat("#", 40)} {
		for _, n := range []int{math.MinInt, math.MinInt32, -1 << 20, -41, -40, -9, -1, 0, 1, 2, 9, 40, 41, 1 << 20, math.MaxInt32, 1 << 40, math.MaxInt - 40, math.MaxInt} {
			for field := range 9 {
				p, _ := Parse(s)
				*[]*int{&p.MinInt, &p.MaxInt, &p.MinFrac, &p.MaxFrac, &p.MinSig, &p.MaxSig, &p.Primary, &p.Secondary, &p.MinExp}[field] = n
				if may(p) {
					holdPrint(t, p, 1)
					continue
				}
				seen++
				for _, more := range []int{math.MinInt, -1, 0, 1, math.MaxInt} {
					if text := Print(p, more); text != "" {
						t.Errorf("Print(%+v, %d) = %q, want nothing", p, more, text)
					}
				}
			}
		}
	}
	if seen < 500 {
		t.Errorf("only %d are nothing", seen)
	}
	for _, step := range []string{"0", "00", "05", "x", "5x", "5,0", "5.0", "#5", "@", "5E0", "-5", "\xff", "٥", "\ufffd", " 5", "5 ", strings.Repeat("5", 41), strings.Repeat("0", 41)} {
		for _, p := range []api.Pattern{{}, {MinInt: 1}, {MinInt: 3}, {MinInt: 40}, {MinFrac: 3, MaxFrac: 3}, {MinInt: 2, MinFrac: 40, MaxFrac: 40}, {MinInt: 6, Primary: 3, Secondary: 3}} {
			p.Inc = step
			if text := Print(p, 0) + Print(p, 1); text != "" {
				t.Errorf("Print(%+v) = %q, want nothing", p, text)
			}
		}
	}
}

// TestMore: many # more ahead, and too many.
func TestMore(t *testing.T) {
	for _, s := range []string{"#", "@@#", "#,##,##0.05", "0.##", ".#"} {
		p, _ := Parse(s)
		for _, more := range []int{100, 1 << 12, 1<<22 + 1} {
			text := Print(p, more)
			if want := strings.Repeat("#", more) + Print(p, 0); text != want {
				t.Errorf("Print of %q, %d has %d bytes, want %d", s, more, len(text), len(want))
			}
			if back, errno := Parse(text); errno != api.OK || !reflect.DeepEqual(back, p) {
				t.Errorf("Parse of %q and %d more = %+v, %d", s, more, back, errno)
			}
		}
		for _, more := range []int{math.MaxInt32, math.MaxInt32 + 1, 1 << 40, math.MaxInt - 1, math.MaxInt} {
			if text := Print(p, more); text != "" {
				t.Errorf("Print of %q, %d has %d bytes, want nothing", s, more, len(text))
			}
		}
	}
}

// TestAgain: the same calls have the same answers, whatever was asked between, and what is handed in stays.
func TestAgain(t *testing.T) {
	p := full()
	before := full()
	first, _ := Parse("#,##,##0.05")
	Fields(p)
	Print(p, 5)
	Parse("x")
	Parse("@@#")
	if second, errno := Parse("#,##,##0.05"); errno != api.OK || !reflect.DeepEqual(first, second) {
		t.Errorf("Parse again = %+v, want %+v", second, first)
	}
	if !reflect.DeepEqual(p, before) {
		t.Errorf("what is handed in is changed: %+v", p)
	}
}

// TestEnd: long texts end.
func TestEnd(t *testing.T) {
	const n = 1 << 22
	long := strings.Repeat("#", n)
	cases := []struct {
		s    string
		want api.Errno
	}{
		{long, api.OK},
		{long + "@", api.OK},
		{strings.Repeat("#,", n) + "0", api.OK},
		{strings.Repeat("0", n), api.ErrLong},
		{"." + long, api.ErrLong},
		{long + "E0", api.ErrLong},
		{strings.Repeat("9", n), api.ErrLong},
		{"0." + strings.Repeat("5", n), api.ErrLong},
		{"0E" + strings.Repeat("0", n), api.ErrLong},
		{strings.Repeat("0E", n), api.ErrNumber},
		{strings.Repeat("0.", n), api.ErrNumber},
		{strings.Repeat("#0", n), api.ErrNumber},
		{strings.Repeat("@#", n), api.ErrNumber},
		{strings.Repeat(",", n), api.ErrGroup},
		{strings.Repeat("\xff", n), api.ErrNumber},
		{strings.Repeat("@", n) + ".", api.ErrNumber},
		{strings.Repeat("@", n) + ".0", api.ErrMix},
	}
	for _, c := range cases {
		if p, errno := Parse(c.s); errno != c.want || errno != api.OK && !reflect.DeepEqual(p, api.Pattern{}) {
			t.Errorf("Parse of %q and so on = %+v, %d, want %d", c.s[:4], p, errno, c.want)
		}
	}
}
