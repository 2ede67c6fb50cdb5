package shape

import (
	"math"
	"math/big"
	"math/rand"
	"reflect"
	"slices"
	"strings"
	"testing"

	"figurehead/api"
	"figurehead/dec"
	"figurehead/pattern"
	"figurehead/print"
)

// ways are all eight; the first seven round.
var ways = []int{api.Ceiling, api.Floor, api.Up, api.Down, api.HalfEven, api.HalfUp, api.HalfDown, api.Exact}

// noWays are numbers that are no way.
var noWays = []int{-1, -2, 8, 9, 255, 256, 1 << 32, math.MinInt, math.MaxInt}

// nines are the greatest number in range.
var nines = strings.Repeat("9", api.MaxPlace)

// of makes a decimal that is not below 0.
func of(digits string, exp int) api.Dec {
	return api.Dec{Digits: digits, Exp: exp}
}

// minus makes the one below 0, -0 too.
func minus(digits string, exp int) api.Dec {
	return api.Dec{Neg: true, Digits: digits, Exp: exp}
}

func rep(s string, n int) string {
	return strings.Repeat(s, n)
}

// compiled is the pattern that the text tells.
func compiled(t *testing.T, text string) api.Pattern {
	t.Helper()
	p, fault := pattern.Compile(text)
	if fault != (api.Fault{}) {
		t.Fatalf("%q is no pattern: %v", text, fault)
	}
	return p
}

// holdRound holds Round against what is wanted.
func holdRound(t *testing.T, text string, m int, d api.Dec, want api.Dec, wantError api.Errno) {
	t.Helper()
	if got, e := Round(compiled(t, text), m, d); got != want || e != wantError {
		t.Errorf("Round(%q, %d, %v) = %v, %d, want %v, %d", text, m, d, got, e, want, wantError)
	}
}

// holdLay holds Lay against what is wanted, of a decimal that Round by Exact answers as it is.
func holdLay(t *testing.T, text string, d api.Dec, want api.Shape) {
	t.Helper()
	holdRound(t, text, api.Exact, d, d, api.OK)
	if got := Lay(compiled(t, text), d); got != want {
		t.Errorf("Lay(%q, %v) = %+v, want %+v", text, d, got, want)
	}
}

// isEng is what the words say of being by threes.
func isEng(p api.Pattern) bool {
	return p.Sci && p.MaxInt > p.MinInt && p.MaxInt > 1
}

// wholeOf is what the words say of whole digits.
func wholeOf(p api.Pattern) int {
	switch {
	case p.MinSig > 0:
		return 1
	case isEng(p) && p.MinInt == 0:
		return 1
	case p.MinInt == 0 && p.MaxFrac == 0:
		return 1
	}
	return p.MinInt
}

// sigOf is what the words say of least and most digits.
func sigOf(p api.Pattern) (least, most int) {
	if p.MinSig > 0 {
		return p.MinSig, p.MaxSig
	}
	return wholeOf(p) + p.MinFrac, wholeOf(p) + p.MaxFrac
}

// multOf is to which power of ten p multiplies.
func multOf(p api.Pattern) int {
	for _, one := range slices.Concat(p.Prefix, p.Suffix, p.NegPrefix, p.NegSuffix) {
		switch one.Kind {
		case api.Percent:
			return 2
		case api.Permille:
			return 3
		}
	}
	return 0
}

// power is ten to the power n, as the library's own.
func power(n int) *big.Rat {
	size := new(big.Int).Exp(big.NewInt(10), big.NewInt(int64(max(n, -n))), nil)
	if n < 0 {
		return new(big.Rat).SetFrac(big.NewInt(1), size)
	}
	return new(big.Rat).SetInt(size)
}

// value is d, as the library's own, without its sign.
func value(d api.Dec) *big.Rat {
	coef, _ := new(big.Int).SetString(d.Digits, 10)
	return new(big.Rat).Mul(new(big.Rat).SetInt(coef), power(d.Exp))
}

// topOf is the greatest place at which x, which is above 0, has another digit than 0.
func topOf(x *big.Rat) int {
	top := len(x.Num().String()) - len(x.Denom().String())
	for x.Cmp(power(top)) < 0 {
		top--
	}
	for x.Cmp(power(top+1)) >= 0 {
		top++
	}
	return top
}

// stepOf is the step to which x, which is above 0, is rounded, of the value that is written.
func stepOf(p api.Pattern, x *big.Rat) *big.Rat {
	_, most := sigOf(p)
	switch {
	case p.Sci || p.MinSig > 0:
		return power(topOf(x) - most + 1)
	case p.Inc != "":
		return value(of(p.Inc, -p.MaxFrac))
	}
	return power(-p.MaxFrac)
}

// away tells whether way m takes times and half steps to the farther neighbour.
func away(m int, neg bool, times *big.Int, half int) bool {
	switch m {
	case api.Ceiling:
		return !neg
	case api.Floor:
		return neg
	case api.Up:
		return true
	case api.HalfEven:
		return half > 0 || half == 0 && times.Bit(0) == 1
	case api.HalfUp:
		return half >= 0
	case api.HalfDown:
		return half > 0
	}
	return false
}

// decimal is x, which is a multiple of a power of ten from -400 on, as it should be.
func decimal(neg bool, x *big.Rat) api.Dec {
	if x.Sign() == 0 {
		return api.Dec{Neg: neg, Digits: "0"}
	}
	text := new(big.Rat).Mul(x, power(400)).Num().String()
	digits := strings.TrimRight(text, "0")
	return api.Dec{Neg: neg, Digits: digits, Exp: len(text) - len(digits) - 400}
}

// ranged tells whether x is in range.
func ranged(x *big.Rat) bool {
	return x.Cmp(power(api.MaxPlace)) < 0 && new(big.Rat).Mul(x, power(api.MaxPlace)).IsInt()
}

// rounded is what the chapter's words make of a good d by a way.
func rounded(p api.Pattern, m int, d api.Dec) (api.Dec, api.Errno) {
	x := value(d)
	if !ranged(x) {
		return api.Dec{}, api.ErrRange
	}
	if x.Sign() == 0 {
		return api.Dec{Neg: d.Neg, Digits: "0"}, api.OK
	}
	x.Mul(x, power(multOf(p)))
	step := stepOf(p, x)
	steps := new(big.Rat).Quo(x, step)
	times, rest := new(big.Int).QuoRem(steps.Num(), steps.Denom(), new(big.Int))
	if rest.Sign() > 0 {
		if m == api.Exact {
			return api.Dec{}, api.ErrInexact
		}
		if away(m, d.Neg, times, rest.Lsh(rest, 1).Cmp(steps.Denom())) {
			times.Add(times, big.NewInt(1))
		}
	}
	x = step.Mul(step, new(big.Rat).SetInt(times))
	x.Mul(x, power(-multOf(p)))
	if !ranged(x) {
		return api.Dec{}, api.ErrRange
	}
	return decimal(d.Neg, x), api.OK
}

// laid is what the chapter's words make of d, digit by digit.
func laid(p api.Pattern, d api.Dec) api.Shape {
	x := value(d)
	x.Mul(x, power(multOf(p)))
	zero, top, low := x.Sign() == 0, 0, 0
	digits := map[int]byte{}
	if !zero {
		whole := decimal(false, x)
		top, low = topOf(x), whole.Exp
		for i := range whole.Digits {
			digits[top-i] = whole.Digits[i]
		}
	}
	// put are the digits at n places, the highest of which is the first.
	put := func(first, n int) string {
		text := ""
		for i := range max(n, 0) {
			digit, ok := digits[first-i]
			if !ok {
				digit = '0'
			}
			text += string(digit)
		}
		return text
	}
	s := api.Shape{Neg: d.Neg}
	least, _ := sigOf(p)
	switch {
	case !p.Sci && p.MinSig > 0:
		s.Int = put(max(top, 0), max(top, 0)+1)
		s.Frac = put(-1, max(-low, p.MinSig-1-top))
	case !p.Sci:
		n := p.MinInt
		if !zero {
			n = max(n, top+1)
		}
		s.Int = put(n-1, n)
		s.Frac = put(-1, max(-low, p.MinFrac))
	case isEng(p):
		for s.Exp > top {
			s.Exp -= p.MaxInt
		}
		for s.Exp+p.MaxInt <= top {
			s.Exp += p.MaxInt
		}
		s.Int = put(top, top-s.Exp+1)
		s.Frac = put(s.Exp-1, max(s.Exp-low, least-len(s.Int)))
	default:
		n := wholeOf(p)
		if !zero {
			s.Exp = top + 1 - n
		}
		s.Int = put(s.Exp+n-1, n)
		s.Frac = put(s.Exp-1, max(s.Exp-low, least-n))
	}
	if s.Int+s.Frac == "" {
		s.Int = "0"
	}
	return s
}

// holdCounts holds Sig and Eng against the chapter's words.
func holdCounts(t *testing.T, p api.Pattern) {
	t.Helper()
	wantLeast, wantMost := sigOf(p)
	if least, most := Sig(p); least != wantLeast || most != wantMost || Eng(p) != isEng(p) {
		t.Errorf("%q: Sig = %d, %d, Eng = %v", print.Print(p), least, most, Eng(p))
	}
}

// holdAll holds Round by all eight ways, and Lay of the answers, against the chapter's words.
func holdAll(t *testing.T, p api.Pattern, d api.Dec) {
	t.Helper()
	for _, m := range ways {
		got, e := Round(p, m, d)
		if want, wantError := rounded(p, m, d); got != want || e != wantError {
			t.Errorf("Round(%q, %d, %v) = %v, %d, want %v, %d", print.Print(p), m, d, got, e, want, wantError)
		}
		if e != api.OK {
			continue
		}
		if again, e := Round(p, api.Exact, got); again != got || e != api.OK {
			t.Errorf("Round(%q, Exact, %v) = %v, %d", print.Print(p), got, again, e)
		}
		s := Lay(p, got)
		if want := laid(p, got); s != want {
			t.Errorf("Lay(%q, %v) = %+v, want %+v", print.Print(p), got, s, want)
		}
		holdValue(t, p, got, s)
	}
}

// holdValue holds the digits of a shape against the value that is written.
func holdValue(t *testing.T, p api.Pattern, d api.Dec, s api.Shape) {
	t.Helper()
	told := value(of(s.Int+s.Frac, s.Exp-len(s.Frac)))
	if told.Cmp(new(big.Rat).Mul(value(d), power(multOf(p)))) != 0 || s.Neg != d.Neg {
		t.Errorf("Lay(%q, %v) = %+v", print.Print(p), d, s)
	}
}

// TestExamples: the chapter's example, and the document's.
func TestExamples(t *testing.T) {
	holdRound(t, "##0.##E0", api.HalfEven, of("12345", 0), of("123", 2), api.OK)
	holdLay(t, "##0.##E0", of("123", 2), api.Shape{Int: "12", Frac: "3", Exp: 3})
	holdLay(t, "#,##0.00;(#)", minus("12345", -1), api.Shape{Neg: true, Int: "1234", Frac: "50"})
	holdRound(t, "0.0%", api.HalfEven, of("1234", -4), of("123", -3), api.OK)
	holdLay(t, "0.0%", of("123", -3), api.Shape{Int: "12", Frac: "3"})
	holdRound(t, "@##", api.HalfEven, of("12345", -7), of("123", -5), api.OK)
	holdLay(t, "@##", of("123", -5), api.Shape{Int: "0", Frac: "00123"})
	holdLay(t, "*x#,##0", of("7", 0), api.Shape{Int: "7"})
	holdRound(t, "0.25", api.HalfUp, of("4", -1), of("5", -1), api.OK)
	holdLay(t, "0.25", of("5", -1), api.Shape{Int: "0", Frac: "50"})
	holdLay(t, "#.##", of("0", 0), api.Shape{Int: "0"})
	holdLay(t, "#.##", of("5", -1), api.Shape{Frac: "5"})
	holdRound(t, "0", api.Exact, of("25", -1), api.Dec{}, api.ErrInexact)
}

// TestSigEng: least and most digits, and being by threes.
func TestSigEng(t *testing.T) {
	for _, c := range []struct {
		text        string
		least, most int
		eng         bool
	}{
		{"0E0", 1, 1, false}, {"0.0E0", 2, 2, false}, {"0.###E0", 1, 4, false}, {"00.0#E0", 3, 4, false}, {"000E0", 3, 3, false},
		{"#E0", 1, 1, false}, {"#.0E0", 1, 1, false}, {"#.##E0", 0, 2, false}, {".0#E0", 1, 2, false}, {".##E0", 0, 2, false},
		{"#0E0", 1, 1, true}, {"##0E0", 1, 1, true}, {"##0.##E0", 1, 3, true}, {"##0.0#E+00", 2, 3, true}, {"#00.0E0", 3, 3, true}, {"##00.##E0", 2, 4, true},
		{"##E0", 1, 1, true}, {"###E0", 1, 1, true}, {"##.0E0", 2, 2, true}, {"###.##E0", 1, 3, true}, {"###.0##E0", 2, 4, true},
		{"@E0", 1, 1, false}, {"@@#E0", 2, 3, false}, {"@###E+000", 1, 4, false},
		{"@", 1, 1, false}, {"@@@", 3, 3, false}, {"#,@@##", 2, 4, false}, {"###@#", 1, 2, false}, {"@@%", 2, 2, false},
		{rep("0", 40) + "." + rep("0", 40) + "E0", 80, 80, false}, {rep("#", 39) + "0." + rep("#", 40) + "E0", 1, 41, true}, {rep("#", 40) + "E0", 1, 1, true}, {rep("@", 40), 40, 40, false}, {"@" + rep("#", 39) + "E0", 1, 40, false},
		// Not Sci, and without an @, the same words make these of it.
		{"0", 1, 1, false}, {"#", 1, 1, false}, {"###,##0.00#", 3, 4, false}, {"#.##", 0, 2, false}, {".00", 2, 2, false}, {"00.25", 4, 4, false}, {"###", 1, 1, false},
	} {
		p := compiled(t, c.text)
		if least, most := Sig(p); least != c.least || most != c.most || Eng(p) != c.eng {
			t.Errorf("%q: Sig = %d, %d, Eng = %v", c.text, least, most, Eng(p))
		}
	}
}

// TestRound: by each branch of the words.
func TestRound(t *testing.T) {
	for _, c := range []struct {
		text string
		m    int
		d    api.Dec
		want api.Dec
	}{
		{"0", api.HalfEven, of("25", -1), of("2", 0)}, {"0", api.HalfUp, of("25", -1), of("3", 0)}, {"0", api.HalfDown, of("25", -1), of("2", 0)}, {"0", api.Up, of("21", -1), of("3", 0)}, {"0", api.Down, of("29", -1), of("2", 0)},
		{"0", api.Ceiling, minus("29", -1), minus("2", 0)}, {"0", api.Floor, minus("21", -1), minus("3", 0)}, {"0", api.Ceiling, minus("4", -1), minus("0", 0)}, {"0", api.HalfEven, minus("0", 7), minus("0", 0)},
		{"#,##0.00#", api.HalfUp, of("12345", -4), of("1235", -3)}, {"#,##0.00#", api.Down, of("0012000", -4), of("12", -1)}, {".0", api.HalfUp, of("5", -2), of("1", -1)},
		{"0%", api.HalfUp, of("255", -3), of("26", -2)}, {"0%", api.HalfUp, of("1", 2), of("1", 2)}, {"0\u2030", api.Down, of("12349", -4), of("1234", -3)}, {"%0.0", api.Up, of("1", -9), of("1", -3)}, {"0;0%", api.Up, of("123", -3), of("13", -2)}, {"0;\u20300", api.Up, of("1234", -4), of("124", -3)},
		{"0'%'", api.HalfUp, of("255", -3), of("0", 0)},
		{"@@@", api.HalfUp, of("12345", -2), of("123", 0)}, {"@@@", api.Up, of("12345", 0), of("124", 2)}, {"@##", api.HalfUp, of("9995", 0), of("1", 4)}, {"@@%", api.HalfUp, of("123", -5), of("12", -4)}, {"@", api.Up, of("1000000001", -9), of("2", 0)},
		{"0.25", api.HalfUp, of("4", -1), of("5", -1)}, {"#50", api.HalfUp, of("74", 0), of("5", 1)}, {"#50", api.HalfUp, of("75", 0), of("1", 2)}, {"0.05%", api.HalfUp, of("12347", -6), of("125", -4)}, {"3.0", api.Down, of("89", -1), of("6", 0)}, {"7", api.HalfEven, of("35", -1), of("0", 0)}, {"7", api.HalfEven, of("105", -1), of("14", 0)}, {"00.5", api.Floor, minus("1", -9), minus("5", -1)},
		{"0E0", api.HalfEven, of("25", 0), of("2", 1)}, {"0.0E0", api.HalfUp, of("12345", 0), of("12", 3)}, {"000E0", api.HalfUp, of("12345", 0), of("123", 2)}, {"##0.##E0", api.HalfUp, of("99999", 0), of("1", 5)}, {"###E0", api.HalfUp, of("15", 0), of("2", 1)}, {"#.#E0", api.HalfUp, of("15", 0), of("2", 1)}, {".00E0", api.Up, of("1001", 0), of("11", 2)}, {"@@#E0", api.HalfUp, of("12345", -9), of("123", -7)}, {"0.0E0%", api.HalfUp, of("12345", 0), of("12", 3)},
	} {
		holdRound(t, c.text, c.m, c.d, c.want, api.OK)
		if want, e := rounded(compiled(t, c.text), c.m, c.d); want != c.want || e != api.OK {
			t.Errorf("the words make %v, %d of %q, %d and %v", want, e, c.text, c.m, c.d)
		}
	}
}

// TestExact: what has more digits than are written is not answered by Exact alone.
func TestExact(t *testing.T) {
	for _, c := range []struct {
		text       string
		fits, norm api.Dec // what fits, and the same as it should be
		more       api.Dec
	}{
		{"0.00", of("1230", -3), of("123", -2), of("1231", -3)}, {"0%", of("12", -2), of("12", -2), of("121", -3)}, {"0.0\u2030", of("1", -4), of("1", -4), of("1", -5)},
		{"@@#", of("12300", 0), of("123", 2), of("12340", 0)}, {"@%", of("1", -300), of("1", -300), of("11", -300)}, {"0.25", of("0750", -3), of("75", -2), of("8", -1)}, {"7", of("14", 0), of("14", 0), of("15", 0)},
		{"##0.##E0", of("999", 9), of("999", 9), of("9991", 9)}, {"#E0", of("9", 299), of("9", 299), of("11", 0)}, {".#E0", of("9", -300), of("9", -300), of("91", -300)}, {"@@E0", of("10", 0), of("1", 1), of("101", 0)},
	} {
		holdRound(t, c.text, api.Exact, c.fits, c.norm, api.OK)
		holdRound(t, c.text, api.Exact, c.more, api.Dec{}, api.ErrInexact)
		for _, m := range ways[:7] {
			holdRound(t, c.text, m, c.fits, c.norm, api.OK)
			if got, e := Round(compiled(t, c.text), m, c.more); e != api.OK || got == c.more {
				t.Errorf("Round(%q, %d, %v) = %v, %d", c.text, m, c.more, got, e)
			}
		}
	}
}

// TestErrors: each error, and which of several is told.
func TestErrors(t *testing.T) {
	bad := []api.Dec{{}, of("", 5), of("x", 0), of("1x", 0), of("-1", 0), of("1.5", 0), of(" 1", 0), of("\u0663", 0), of("1\xff", 0), of(rep("0", 1001), 0), of("1"+rep("0", 1000), -1000), of("0", 1001), of("0", -1001), of("1", math.MaxInt), of("1", math.MinInt), of("0", math.MaxInt), minus("0", math.MinInt)}
	far := []api.Dec{of("1", 300), minus("1", 300), of("10", 299), of("1", 1000), of("1", -301), minus("11", -301), of("1", -1000), of(rep("9", 1000), -500), of(rep("9", 1000), -1000), of("9"+nines, 0), of("1"+rep("0", 999), 1000), of(nines+"01", -1)}
	texts := []string{"0", "0.00", "#", "@", "@@#%", "0%", "7", "0.25", "0E0", "##0.##E0", ".#E0", "@E0", "0\u2030;x0", "*x0"}
	for _, text := range texts {
		for _, d := range slices.Concat(bad, far, []api.Dec{of("1", 0), of("123456789", -5), of("0", 0)}) {
			for _, m := range noWays {
				holdRound(t, text, m, d, api.Dec{}, api.ErrArg)
			}
		}
		for _, m := range ways {
			for _, d := range bad {
				holdRound(t, text, m, d, api.Dec{}, api.ErrDigits)
			}
			for _, d := range far {
				holdRound(t, text, m, d, api.Dec{}, api.ErrRange)
			}
		}
	}
	// What is not in range is told ahead of what would have to be rounded; what is good and 0 is in range wherever it is.
	holdRound(t, "0", api.Exact, of("15", -302), api.Dec{}, api.ErrRange)
	holdRound(t, "0", api.Exact, of(rep("0", 1000), 1000), of("0", 0), api.OK)
	holdRound(t, "@%", api.Up, minus(rep("0", 1000), -1000), minus("0", 0), api.OK)
	// What the zeros at the end say more than the range counts for nothing.
	holdRound(t, "@", api.Exact, of("1000", -303), of("1", -300), api.OK)
	holdRound(t, "#E0", api.Exact, of("1"+rep("0", 999), -700), of("1", 299), api.OK)
	holdRound(t, "#E0", api.Exact, of("1"+rep("0", 999), -699), api.Dec{}, api.ErrRange)
	holdRound(t, "@", api.Exact, of(rep("0", 999)+"1", -300), of("1", -300), api.OK)
}

// TestRange: what is rounded out of the range.
func TestRange(t *testing.T) {
	for _, text := range []string{"@", "@@#", "@%", "0E0", "##0.##E0", "@@E0\u2030", "8", "#50", "0.11", "5", "0.3%"} {
		p := compiled(t, text)
		for _, m := range ways {
			for _, d := range []api.Dec{of(nines, 0), minus(nines, 0), of("95", 298), minus("94", 298)} {
				want, wantError := rounded(p, m, d)
				holdRound(t, text, m, d, want, wantError)
			}
		}
	}
	for _, text := range []string{"8", "5", "#50", "@", "0E0%", "1000", "@%"} {
		holdRound(t, text, api.Up, of(nines, 0), api.Dec{}, api.ErrRange)
		holdRound(t, text, api.Floor, minus(nines, 0), api.Dec{}, api.ErrRange)
	}
	holdRound(t, "8", api.Down, of(nines, 0), of(rep("9", 297)+"992", 0), api.OK)
	holdRound(t, "@", api.Down, of(nines, 0), of("9", 299), api.OK)
	holdRound(t, "0", api.Up, of(nines, 0), of(nines, 0), api.OK)
	holdRound(t, "0%", api.Up, of(nines, 0), of(nines, 0), api.OK)
	holdRound(t, "7", api.Up, of("1", 299), of("1"+rep("0", 298)+"2", 0), api.OK)
	// Of the value that is written the range is not asked.
	holdRound(t, "0%", api.Exact, of("9", 299), of("9", 299), api.OK)
	holdRound(t, "@\u2030", api.Exact, of("9", 299), of("9", 299), api.OK)
	holdRound(t, rep("9", 40)+"%", api.Up, of(nines, 0), api.Dec{}, api.ErrRange)
}

// TestLay: by each branch of the words.
func TestLay(t *testing.T) {
	for _, c := range []struct {
		text string
		d    api.Dec
		want api.Shape
	}{
		{"0", of("0", 0), api.Shape{Int: "0"}}, {"0", minus("0", 0), api.Shape{Neg: true, Int: "0"}}, {"0", of("12", 3), api.Shape{Int: "12000"}}, {"000", of("7", 0), api.Shape{Int: "007"}}, {"000", of("1234", 0), api.Shape{Int: "1234"}}, {"000", of("0", 0), api.Shape{Int: "000"}},
		{"#", of("0", 0), api.Shape{Int: "0"}}, {"#", minus("5", 0), api.Shape{Neg: true, Int: "5"}}, {"#.00", of("0", 0), api.Shape{Frac: "00"}}, {"#.0#", of("25", -2), api.Shape{Frac: "25"}}, {"#.0#", minus("5", -2), api.Shape{Neg: true, Frac: "05"}}, {"#.0#", of("1", 0), api.Shape{Int: "1", Frac: "0"}}, {".##", of("12", 0), api.Shape{Int: "12"}}, {".##", minus("0", 0), api.Shape{Neg: true, Int: "0"}},
		{"0.##", of("5", 0), api.Shape{Int: "5"}}, {"0.##", of("5", -2), api.Shape{Int: "0", Frac: "05"}}, {"0.0##", of("5", -2), api.Shape{Int: "0", Frac: "05"}}, {"0.000", of("105", -1), api.Shape{Int: "10", Frac: "500"}}, {"#,##0.00", of("1234567", 0), api.Shape{Int: "1234567", Frac: "00"}},
		{"0%", of("26", -2), api.Shape{Int: "26"}}, {"0.0\u2030", of("25", -4), api.Shape{Int: "2", Frac: "5"}}, {"#.#%", of("5", -3), api.Shape{Frac: "5"}}, {"#%", of("1", -2), api.Shape{Int: "1"}}, {"0;0%", of("1", 0), api.Shape{Int: "100"}},
		{"0.25", of("5", -1), api.Shape{Int: "0", Frac: "50"}}, {"0.25", of("75", 0), api.Shape{Int: "75", Frac: "00"}}, {"#50", of("15", 1), api.Shape{Int: "150"}}, {"#.50", of("5", -1), api.Shape{Frac: "50"}},
		{"@", of("0", 0), api.Shape{Int: "0"}}, {"@@@", of("0", 0), api.Shape{Int: "0", Frac: "00"}}, {"@@@", of("1", 0), api.Shape{Int: "1", Frac: "00"}}, {"@@@", of("123", 0), api.Shape{Int: "123"}}, {"@@@", of("1", 5), api.Shape{Int: "100000"}}, {"@@@", of("12", 0), api.Shape{Int: "12", Frac: "0"}}, {"@@@", of("1", -1), api.Shape{Int: "0", Frac: "100"}}, {"@@#", of("1", -3), api.Shape{Int: "0", Frac: "0010"}}, {"@@#", of("123", -3), api.Shape{Int: "0", Frac: "123"}}, {"@##", of("12", -1), api.Shape{Int: "1", Frac: "2"}}, {"@@%", of("1", -2), api.Shape{Int: "1", Frac: "0"}},
		{"0E0", of("0", 0), api.Shape{Int: "0"}}, {"0E0", of("9", 12), api.Shape{Int: "9", Exp: 12}}, {"0E0", minus("9", -12), api.Shape{Neg: true, Int: "9", Exp: -12}}, {"0.0#E0", of("1", 0), api.Shape{Int: "1", Frac: "0"}}, {"0.0#E0", of("123", 0), api.Shape{Int: "1", Frac: "23", Exp: 2}}, {"00.0E0", of("123", 2), api.Shape{Int: "12", Frac: "3", Exp: 3}}, {"00.0E0", of("1", 0), api.Shape{Int: "10", Frac: "0", Exp: -1}}, {"00.0E0", of("0", 0), api.Shape{Int: "00", Frac: "0"}}, {"000E0", of("5", 0), api.Shape{Int: "500", Exp: -2}}, {"000E0", of("0", 0), api.Shape{Int: "000"}},
		{"#E0", of("1", 2), api.Shape{Int: "1", Exp: 2}}, {"#E0", of("0", 0), api.Shape{Int: "0"}}, {".##E0", of("12", 3), api.Shape{Frac: "12", Exp: 5}}, {".##E0", of("0", 0), api.Shape{Int: "0"}}, {"#.##E0", of("5", 0), api.Shape{Frac: "5", Exp: 1}}, {".00E0", of("5", -3), api.Shape{Frac: "50", Exp: -2}}, {".00E0", of("0", 0), api.Shape{Frac: "00"}}, {"#.0#E0", minus("0", 0), api.Shape{Neg: true, Frac: "0"}},
		{"##0.##E0", of("0", 0), api.Shape{Int: "0"}}, {"##0.##E0", of("1", 0), api.Shape{Int: "1"}}, {"##0.##E0", of("1", 5), api.Shape{Int: "100", Exp: 3}}, {"##0.##E0", of("1", 6), api.Shape{Int: "1", Exp: 6}}, {"##0.##E0", of("1", -1), api.Shape{Int: "100", Exp: -3}}, {"##0.##E0", of("1", -3), api.Shape{Int: "1", Exp: -3}}, {"##0.##E0", of("1", -4), api.Shape{Int: "100", Exp: -6}}, {"##0.##E0", of("123", -5), api.Shape{Int: "1", Frac: "23", Exp: -3}}, {"##0.00E0", of("0", 0), api.Shape{Int: "0", Frac: "00"}}, {"##0.00E0", of("12", 0), api.Shape{Int: "12", Frac: "0"}}, {"##0.00E0", of("123", 0), api.Shape{Int: "123"}},
		{"##00.0E0", of("5", 0), api.Shape{Int: "5", Frac: "00"}}, {"##00.0E0", of("0", 0), api.Shape{Int: "0", Frac: "00"}}, {"##00.0E0", of("5", 4), api.Shape{Int: "5", Frac: "00", Exp: 4}}, {"##00.0E0", of("5", -1), api.Shape{Int: "5000", Exp: -4}}, {"#0.#E0", of("12", 1), api.Shape{Int: "1", Frac: "2", Exp: 2}}, {"#0.#E0", of("12", 2), api.Shape{Int: "12", Exp: 2}}, {"##E0", of("5", 3), api.Shape{Int: "50", Exp: 2}}, {"##.0E0", of("0", 0), api.Shape{Int: "0", Frac: "0"}},
		{"@E0", of("7", 9), api.Shape{Int: "7", Exp: 9}}, {"@@#E0", of("1", 3), api.Shape{Int: "1", Frac: "0", Exp: 3}}, {"@@#E0", of("123", 0), api.Shape{Int: "1", Frac: "23", Exp: 2}}, {"@@@E0", of("0", 0), api.Shape{Int: "0", Frac: "00"}}, {"@#E0%", of("12", -9), api.Shape{Int: "1", Frac: "2", Exp: -6}},
	} {
		holdLay(t, c.text, c.d, c.want)
		if want := laid(compiled(t, c.text), c.d); want != c.want {
			t.Errorf("the words make %+v of %q and %v", want, c.text, c.d)
		}
	}
}

// TestLayEnds: the greatest decimals, the finest ones, and patterns with as many digits as there may be.
func TestLayEnds(t *testing.T) {
	noughts := rep("0", 40)
	for _, c := range []struct {
		text string
		d    api.Dec
		want api.Shape
	}{
		{"0", of(nines, 0), api.Shape{Int: nines}}, {"0.00", of("1", 299), api.Shape{Int: "1" + rep("0", 299), Frac: "00"}}, {"0\u2030", of(nines, 0), api.Shape{Int: nines + "000"}}, {"0%", minus("1", 299), api.Shape{Neg: true, Int: "1" + rep("0", 301)}},
		{noughts + "." + noughts, of("0", 0), api.Shape{Int: noughts, Frac: noughts}}, {noughts + "." + noughts, of("1", -40), api.Shape{Int: noughts, Frac: noughts[1:] + "1"}}, {noughts + "." + noughts, of("1", 40), api.Shape{Int: "1" + noughts, Frac: noughts}}, {noughts + "." + noughts + "%", of("1", 38), api.Shape{Int: "1" + noughts, Frac: noughts}},
		{"@", of("1", -300), api.Shape{Int: "0", Frac: rep("0", 299) + "1"}}, {"@@", of("1", -300), api.Shape{Int: "0", Frac: rep("0", 299) + "10"}}, {rep("@", 40), of("1", -300), api.Shape{Int: "0", Frac: rep("0", 299) + "1" + noughts[1:]}}, {rep("@", 40), of("0", 0), api.Shape{Int: "0", Frac: noughts[1:]}}, {rep("@", 40) + "%", of("1", -300), api.Shape{Int: "0", Frac: rep("0", 297) + "1" + noughts[1:]}}, {rep("@", 40), of("1", 299), api.Shape{Int: "1" + rep("0", 299)}},
		{noughts + "." + noughts + "E0", of("1", -300), api.Shape{Int: "1" + noughts[1:], Frac: noughts, Exp: -339}}, {noughts + "." + noughts + "E0", of("1", 299), api.Shape{Int: "1" + noughts[1:], Frac: noughts, Exp: 260}}, {"0E0\u2030", of("9", 299), api.Shape{Int: "9", Exp: 302}}, {".#E0", of("9", -300), api.Shape{Frac: "9", Exp: -299}}, {"##0E0", of("9", -299), api.Shape{Int: "90", Exp: -300}}, {"##0E0", of("9", 299), api.Shape{Int: "900", Exp: 297}},
		{rep("#", 40) + "E0", of("7", 299), api.Shape{Int: "7" + rep("0", 19), Exp: 280}}, {rep("#", 40) + "E0", of("7", -300), api.Shape{Int: "7" + rep("0", 20), Exp: -320}}, {rep("#", 39) + "0." + noughts + "E0", of("7", -1), api.Shape{Int: "7" + noughts[1:], Frac: "0", Exp: -40}},
	} {
		holdLay(t, c.text, c.d, c.want)
	}
}

// samples are decimals of all sorts, with both signs.
func samples() []api.Dec {
	var list []api.Dec
	for _, digits := range []string{"0", "000", "1", "5", "7", "10", "25", "35", "049", "995", "9995", "12345", "99999", "1500", "4999999999", "5000000001", "123456789012345678901234567890"} {
		for _, exp := range []int{-31, -12, -6, -5, -4, -3, -2, -1, 0, 1, 2, 3, 4, 7} {
			list = append(list, of(digits, exp), minus(digits, exp))
		}
	}
	return list
}

// texts calls do with all rows of up to n parts.
func texts(parts []string, n int, do func(string)) {
	var extend func(s string, left int)
	extend = func(s string, left int) {
		do(s)
		for _, part := range parts {
			if left > 0 {
				extend(s+part, left-1)
			}
		}
	}
	extend("", n)
}

// TestAll: all short patterns of several sets of parts, each with some decimals.
func TestAll(t *testing.T) {
	list := samples()
	seen := map[string]bool{}
	next := 0
	for _, set := range []struct {
		n     int
		parts []string
	}{
		{6, []string{"#", "0", "5", ".", "@"}},
		{6, []string{"#", "0", ".", "E0"}},
		{5, []string{"#", "@", "E0", "%", ","}},
		{5, []string{"#", "0", ".", "\u2030", "E0"}},
		{4, []string{"#", "0", "*x", ";", "a", "%", "2.5"}},
	} {
		texts(set.parts, set.n, func(text string) {
			p, fault := pattern.Compile(text)
			key := print.Print(p)
			if fault.E != api.OK || seen[key] {
				return
			}
			seen[key] = true
			holdCounts(t, p)
			for range 12 {
				holdAll(t, p, list[next%len(list)])
				next += 7
			}
		})
	}
	if len(seen) < 1500 {
		t.Errorf("only %d patterns", len(seen))
	}
}

// TestSamples: some patterns of each sort with all decimals.
func TestSamples(t *testing.T) {
	for _, text := range []string{"0", "#", "#,##0.00", "#.##", ".0#", "000.000", "0.0%", "#.#\u2030", "@", "@@#", "@@@%", "0.25", "#50", "3", "0.7%", "0E0", "0.0#E0", "00.#E0", ".0#E0", "#.#E0", "##0.##E0", "##0.00E0", "##00.#E0", "##E0", "##.0E0", "@E0", "@@#E0", "##0.0E0%", "0E0\u2030", "*x#,##0.0;(0)"} {
		p := compiled(t, text)
		for _, d := range samples() {
			holdAll(t, p, d)
		}
	}
}

// TestRandom: long decimals, up to both ends of the range and beyond, by patterns with many digits.
func TestRandom(t *testing.T) {
	source := rand.New(rand.NewSource(19))
	some := func(s string, most int) string { return rep(s, source.Intn(most+1)) }
	good := 0
	for range 2000 {
		text := some("#", 5) + some("0", 9)
		switch source.Intn(4) {
		case 0:
			text = some("#", 3) + "@" + some("@", 12) + some("#", 12)
		case 1:
			text += "0." + some("0", 20) + some("#", 20)
		case 2:
			text = some("#", 40-len(text)) + text + "." + some("0", 12) + "#E" + some("0", 3) + "0"
		case 3:
			text += some("05", 9) + "." + some("0", 3) + some("7", 3) + "5"
		}
		text += []string{"", "%", "\u2030"}[source.Intn(3)]
		p, fault := pattern.Compile(text)
		if fault.E != api.OK {
			continue
		}
		good++
		for range 3 {
			digits := some("0", 2) + string(rune('0'+source.Intn(10))) + some("9", []int{2, 30, 300, 600}[source.Intn(4)]) + some("0", 3) + string(rune('0'+source.Intn(10))) + some("0", 9)
			d := api.Dec{Neg: source.Intn(2) == 0, Digits: digits, Exp: source.Intn(700) - 400}
			if source.Intn(2) == 0 {
				d.Exp = source.Intn(60) - 30 - len(digits)/2
			}
			holdAll(t, p, d)
		}
	}
	if good < 1400 {
		t.Errorf("only %d are patterns", good)
	}
}

// TestOrder: the order of any two stays, and Ceiling is never below, Floor never above.
func TestOrder(t *testing.T) {
	list := samples()
	for _, text := range []string{"0.0", "0%", "@@", "0.25", "##0.#E0", ".#E0\u2030"} {
		p := compiled(t, text)
		for _, m := range ways[:7] {
			answers := make([]api.Dec, len(list))
			for i, d := range list {
				answers[i], _ = Round(p, m, d)
				if c := dec.Cmp(answers[i], d); m == api.Ceiling && c < 0 || m == api.Floor && c > 0 {
					t.Errorf("Round(%q, %d, %v) = %v", text, m, d, answers[i])
				}
			}
			for i, a := range list {
				for j, b := range list[:i] {
					if c := dec.Cmp(answers[i], answers[j]); c != 0 && c != dec.Cmp(a, b) {
						t.Errorf("by %q and way %d the order of %v and %v is another one", text, m, a, b)
					}
				}
			}
		}
	}
}

// TestUnchanged: nothing that is handed in is changed, spare room included, which counts for nothing.
func TestUnchanged(t *testing.T) {
	for _, text := range []string{"a#,##0.00b;(0)", "*x##0.0%", "-@@#", "0.25;x0", "##0.#E+00"} {
		p, before := compiled(t, text), compiled(t, text)
		for _, items := range []*[]api.Item{&p.Prefix, &p.Suffix, &p.NegPrefix, &p.NegSuffix} {
			*items = append(append([]api.Item{}, *items...), api.Item{Kind: api.Percent}, api.Item{Kind: 99})
			*items = (*items)[:len(*items)-2]
		}
		for _, d := range samples()[:60] {
			want, wantError := Round(before, api.HalfUp, d)
			got, e := Round(p, api.HalfUp, d)
			if got != want || e != wantError || Lay(p, got) != Lay(before, want) {
				t.Errorf("with spare room Round(%q, %v) = %v, %d, want %v, %d", text, d, got, e, want, wantError)
			}
		}
		for _, items := range []*[]api.Item{&p.Prefix, &p.Suffix, &p.NegPrefix, &p.NegSuffix} {
			if room := (*items)[:len(*items)+2]; room[len(room)-2] != (api.Item{Kind: api.Percent}) || room[len(room)-1] != (api.Item{Kind: 99}) {
				t.Errorf("%q: spare room is changed: %v", text, room)
			}
			if len(*items) == 0 {
				*items = nil
			}
		}
		for _, items := range []*[]api.Item{&before.Prefix, &before.Suffix, &before.NegPrefix, &before.NegSuffix} {
			if len(*items) == 0 {
				*items = nil
			}
		}
		if !reflect.DeepEqual(p, before) {
			t.Errorf("%q is changed: %+v, was %+v", text, p, before)
		}
	}
}

// TestOthers: nothing is promised of other arguments than the chapter's, but that the calls end, without a panic.
func TestOthers(t *testing.T) {
	ends := []int{math.MinInt, math.MinInt + 1, -70000, -1, 1, 41, 70000, math.MaxInt32, math.MaxInt - 1, math.MaxInt}
	decs := []api.Dec{{}, of("x", 0), of("1", 0), of("125", -2), of(nines, 0), of("1", -300), of("1", 1000), of("1", math.MaxInt), of("1", math.MinInt), of("0", math.MinInt), of(rep("9", 5000), 0), minus("5", -1)}
	for _, text := range []string{"0", "0.00", "@@#", "0.25", "##0.##E0", "@E0", "*x0%", "#.#E0"} {
		good := compiled(t, text)
		for _, d := range decs {
			Lay(good, d)
		}
		for i := range 10 {
			for _, n := range ends {
				p := compiled(t, text)
				*[]*int{&p.MinInt, &p.MaxInt, &p.MinFrac, &p.MaxFrac, &p.MinSig, &p.MaxSig, &p.Primary, &p.MinExp, &p.PadAt, &p.Width}[i] = n
				Sig(p)
				Eng(p)
				for _, d := range decs {
					for m := -1; m <= api.Exact+1; m++ {
						Round(p, m, d)
					}
					Lay(p, d)
				}
			}
		}
	}
	for _, step := range []string{"x", "0", "-5", rep("5", 41), rep("5", 70000)} {
		p := compiled(t, "0.25")
		p.Inc = step
		for _, d := range decs {
			Round(p, api.Up, d)
			Lay(p, d)
		}
	}
	if least, most := Sig(api.Pattern{}); least != 1 || most != 1 {
		t.Errorf("Sig of no pattern = %d, %d", least, most)
	}
}
