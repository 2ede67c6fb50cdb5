package place

import (
	"math"
	"math/big"
	"strings"
	"testing"

	"figurehead/api"
	"figurehead/dec"
)

const (
	mostDigits = 4 * api.MaxDigits // of which the chapter speaks
	mostExp    = 4 * api.MaxExp
)

// rounding are the seven ways that round.
var rounding = []int{api.Ceiling, api.Floor, api.Up, api.Down, api.HalfEven, api.HalfUp, api.HalfDown}

// noWays are numbers beside the eight ways.
var noWays = []int{-1, -8, api.Exact + 1, 9, 16, 255, 256, 1 << 32, 1<<32 + api.Up, math.MinInt, math.MinInt + api.Up, math.MaxInt}

// of makes a decimal that is not below 0.
func of(digits string, exp int) api.Dec {
	return api.Dec{Digits: digits, Exp: exp}
}

// minus makes the one below 0, -0 too.
func minus(digits string, exp int) api.Dec {
	return api.Dec{Neg: true, Digits: digits, Exp: exp}
}

func rep(s string, n int) string {
	return strings.Repeat(s, n)
}

// hold holds what Round answers against want, with no error.
func hold(t *testing.T, m int, d api.Dec, place int, want api.Dec) {
	t.Helper()
	if got, e := Round(m, d, place); got != want || e != api.OK {
		t.Errorf("Round(%d, %v, %d) = %v, %d, want %v", m, d, place, got, e, want)
	}
}

// holdError holds what Round answers against an error, beside which there is nothing.
func holdError(t *testing.T, m int, d api.Dec, place int, want api.Errno) {
	t.Helper()
	if got, e := Round(m, d, place); got != (api.Dec{}) || e != want {
		t.Errorf("Round(%d, %v, %d) = %v, %d, want the error %d", m, d, place, got, e, want)
	}
}

// TestExamples: the chapter's examples, and the document's that round at a place.
func TestExamples(t *testing.T) {
	hold(t, api.HalfEven, of("25", -1), 0, of("2", 0))
	hold(t, api.HalfEven, minus("4", -1), 0, minus("0", 0))
	hold(t, api.HalfEven, of("1234", -4), -3, of("123", -3))
	hold(t, api.HalfEven, of("12345", 0), 2, of("123", 2))
	holdError(t, api.Exact, of("25", -1), 0, api.ErrInexact)
}

// TestRound: the answers by Ceiling, Floor, Up, Down, HalfEven, HalfUp and HalfDown of decimals that are no multiples; each text is how many times the step they are.
func TestRound(t *testing.T) {
	cases := []struct {
		digits     string
		exp, place int
		above, neg string
	}{
		{"25", -1, 0, "3 2 3 2 2 3 2", "2 3 3 2 2 3 2"},
		{"35", -1, 0, "4 3 4 3 4 4 3", "3 4 4 3 4 4 3"},
		{"21", -1, 0, "3 2 3 2 2 2 2", "2 3 3 2 2 2 2"},
		{"29", -1, 0, "3 2 3 2 3 3 3", "2 3 3 2 3 3 3"},
		{"5", -1, 0, "1 0 1 0 0 1 0", "0 1 1 0 0 1 0"},
		{"4", -1, 0, "1 0 1 0 0 0 0", "0 1 1 0 0 0 0"},
		{"6", -1, 0, "1 0 1 0 1 1 1", "0 1 1 0 1 1 1"},
		{"2500", -3, 0, "3 2 3 2 2 3 2", "2 3 3 2 2 3 2"},
		{"0025", -1, 0, "3 2 3 2 2 3 2", "2 3 3 2 2 3 2"},
		{"2501", -3, 0, "3 2 3 2 3 3 3", "2 3 3 2 3 3 3"},
		{"3499", -3, 0, "4 3 4 3 3 3 3", "3 4 4 3 3 3 3"},
		{"25" + rep("0", 40) + "1", -42, 0, "3 2 3 2 3 3 3", "2 3 3 2 3 3 3"},
		{"24" + rep("9", 40), -41, 0, "3 2 3 2 2 2 2", "2 3 3 2 2 2 2"},
		{"5", -2, 0, "1 0 1 0 0 0 0", "0 1 1 0 0 0 0"},
		{"99", -300, 0, "1 0 1 0 0 0 0", "0 1 1 0 0 0 0"},
		{"10", -2, 0, "1 0 1 0 0 0 0", "0 1 1 0 0 0 0"},
		{"1205", -3, -2, "121 120 121 120 120 121 120", "120 121 121 120 120 121 120"},
		{"1215", -3, -2, "122 121 122 121 122 122 121", "121 122 122 121 122 122 121"},
		{"5", 0, 1, "1 0 1 0 0 1 0", "0 1 1 0 0 1 0"},
		{"5", 0, 3, "1 0 1 0 0 0 0", "0 1 1 0 0 0 0"},
		{"15", 2, 3, "2 1 2 1 2 2 1", "1 2 2 1 2 2 1"},
		{"995", -1, 0, "100 99 100 99 100 100 99", "99 100 100 99 100 100 99"},
		{"9999999995", -1, 0, "1000000000 999999999 1000000000 999999999 1000000000 1000000000 999999999", "999999999 1000000000 1000000000 999999999 1000000000 1000000000 999999999"},
		{"10000000005", -1, 0, "1000000001 1000000000 1000000001 1000000000 1000000000 1000000001 1000000000", "1000000000 1000000001 1000000001 1000000000 1000000000 1000000001 1000000000"},
		{"1000000001500000000", -18, -9, "1000000002 1000000001 1000000002 1000000001 1000000002 1000000002 1000000001", "1000000001 1000000002 1000000002 1000000001 1000000002 1000000002 1000000001"},
	}
	for _, c := range cases {
		for i, want := range strings.Fields(c.above) {
			hold(t, rounding[i], of(c.digits, c.exp), c.place, dec.Norm(of(want, c.place)))
		}
		for i, want := range strings.Fields(c.neg) {
			hold(t, rounding[i], minus(c.digits, c.exp), c.place, dec.Norm(minus(want, c.place)))
		}
		holdError(t, api.Exact, of(c.digits, c.exp), c.place, api.ErrInexact)
		holdError(t, api.Exact, minus(c.digits, c.exp), c.place, api.ErrInexact)
	}
}

// TestMultiples: what is a multiple stays, by all ways, and is as it should be.
func TestMultiples(t *testing.T) {
	cases := []struct {
		d     api.Dec
		place int
		want  api.Dec
	}{
		{of("1200", 0), 2, of("12", 2)}, {of("0120", 2), 3, of("12", 3)}, {minus("0120", 2), -7, minus("12", 3)}, {of("250", -1), 0, of("25", 0)}, {minus("25", -2), -2, minus("25", -2)},
		{of("0", 0), 0, of("0", 0)}, {of("000", -5), 9, of("0", 0)}, {of("0", 7), -3, of("0", 0)}, {minus("0", 0), 0, minus("0", 0)}, {minus("000", -5), 9, minus("0", 0)}, {minus("00", -4000), api.MaxExp, minus("0", 0)},
		{of("1", api.MaxExp), api.MaxExp, of("1", api.MaxExp)}, {of("1", mostExp), api.MaxExp, of("1", mostExp)}, {minus("1", -api.MaxExp), -api.MaxExp, minus("1", -api.MaxExp)}, {of("1"+rep("0", mostDigits-1), -3*api.MaxExp), api.MaxExp - 1, of("1", 999)},
	}
	for _, c := range cases {
		for _, m := range append([]int{api.Exact}, rounding...) {
			hold(t, m, c.d, c.place, c.want)
		}
		if !Fits(c.d, c.place) {
			t.Errorf("Fits(%v, %d) = false", c.d, c.place)
		}
	}
}

// TestNoWay: what is no way is told first, of multiples too.
func TestNoWay(t *testing.T) {
	for _, m := range noWays {
		for _, d := range []api.Dec{of("25", -1), minus("25", -1), of("2", 0), of("0", 0), minus("0", 5)} {
			for _, place := range []int{-api.MaxExp, -1, 0, 1, api.MaxExp} {
				holdError(t, m, d, place, api.ErrArg)
			}
		}
	}
}

func TestFits(t *testing.T) {
	cases := []struct {
		d     api.Dec
		place int
		want  bool
	}{
		{of("10", -2), 0, false}, {of("10", -2), -1, true}, {of("10", -2), -2, true}, {of("1", 0), 1, false}, {of("1", 0), 0, true}, {of("1", 0), -1, true}, {minus("1200", 0), 2, true}, {minus("1200", 0), 3, false},
		{of("0120", 2), 3, true}, {of("0120", 2), 4, false}, {of("0", -5), 9, true}, {minus("00", 5), 9, true}, {minus("0", 0), -9, true},
		{of("5", 0), 1, false}, {of("1000000001", 0), 9, false}, {of("1000000000", 0), 9, true}, {of("1000000000", 0), 10, false}, {of("1"+rep("0", 400)+"1", 0), 1, false}, {of("1"+rep("0", 400), 0), 400, true}, {of("1"+rep("0", 400), 0), 401, false},
		{of("1", -mostExp), -api.MaxExp, false}, {of("1", mostExp), api.MaxExp, true}, {of("0", mostExp), api.MaxExp, true}, {of("0", -mostExp), api.MaxExp, true},
	}
	for _, c := range cases {
		if got := Fits(c.d, c.place); got != c.want {
			t.Errorf("Fits(%v, %d) = %v", c.d, c.place, got)
		}
	}
}

// samples are decimals of all sorts, with both signs: 0 in many forms, noughts ahead, within and at the end, halves and what is just beside them, and the ends of limbs.
func samples() []api.Dec {
	var list []api.Dec
	texts := []string{
		"0", "000", "1", "2", "5", "9", "10", "01", "0120", "25", "35", "50", "0500", "125", "499", "501", "950", "995", "2500001", "2499999",
		"999999999", "1000000000", "1000000001", "500000000", "1500000000", "4999999999", "5000000001", "999999999500000000", "15000000000000000000001", "123456789012345678901234567890", rep("9", 30) + "5" + rep("0", 9),
	}
	for _, digits := range texts {
		for _, exp := range []int{-31, -10, -9, -3, -2, -1, 0, 1, 9} {
			list = append(list, of(digits, exp), minus(digits, exp))
		}
	}
	return list
}

// parts answers, by the library's means: how many times the step, without a sign, d's neighbour nearer to 0 is; and twice the rest and the step, both times the same power of ten.
func parts(d api.Dec, place int) (times, twice, step *big.Int) {
	low := min(d.Exp, place)
	size, _ := new(big.Int).SetString(d.Digits, 10)
	size.Mul(size, power(d.Exp-low))
	step = power(place - low)
	times, rest := new(big.Int).QuoRem(size, step, new(big.Int))
	return times, rest.Lsh(rest, 1), step
}

// power is ten to the power n, as the library's own.
func power(n int) *big.Int {
	return new(big.Int).Exp(big.NewInt(10), big.NewInt(int64(n)), nil)
}

// away tells whether d is rounded to the neighbour farther from 0: each way as its name says it.
func away(m int, neg bool, times, twice, step *big.Int) bool {
	half := twice.Cmp(step)
	switch m {
	case api.Ceiling:
		return !neg
	case api.Floor:
		return neg
	case api.Up:
		return true
	case api.HalfEven:
		return half > 0 || half == 0 && times.Bit(0) == 1
	case api.HalfUp:
		return half >= 0
	case api.HalfDown:
		return half > 0
	}
	return false
}

// written is size times ten to the power exp, as it should be, made by the library's means.
func written(neg bool, size *big.Int, exp int) api.Dec {
	if size.Sign() == 0 {
		return api.Dec{Neg: neg, Digits: "0"}
	}
	text := size.String()
	digits := strings.TrimRight(text, "0")
	return api.Dec{Neg: neg, Digits: digits, Exp: exp + len(text) - len(digits)}
}

// holdAll holds Round by all eight ways, and Fits, of one decimal at one place against math/big.
func holdAll(t *testing.T, d api.Dec, place int) {
	t.Helper()
	times, twice, step := parts(d, place)
	fits := twice.Sign() == 0
	if got := Fits(d, place); got != fits {
		t.Errorf("Fits(%v, %d) = %v", d, place, got)
	}
	for _, m := range rounding {
		size := new(big.Int).Set(times)
		if !fits && away(m, d.Neg, times, twice, step) {
			size.Add(size, big.NewInt(1))
		}
		hold(t, m, d, place, written(d.Neg, size, place))
	}
	if fits {
		hold(t, api.Exact, d, place, written(d.Neg, times, place))
	} else {
		holdError(t, api.Exact, d, place, api.ErrInexact)
	}
}

func TestAgainstLibrary(t *testing.T) {
	for _, d := range samples() {
		for place := -45; place <= 45; place++ {
			holdAll(t, d, place)
		}
	}
}

// TestEndsAgainstLibrary: the greatest decimals of which the chapter speaks, at the places at both ends, and at those about where their digits begin and end.
func TestEndsAgainstLibrary(t *testing.T) {
	texts := []string{"0", "1", "5", "9", rep("0", mostDigits), rep("9", mostDigits), rep("0", mostDigits-1) + "5", "5" + rep("0", mostDigits-1), "5" + rep("0", mostDigits-2) + "1", "4" + rep("9", mostDigits-1)}
	for _, digits := range texts {
		for _, exp := range []int{-mostExp, -mostExp + 1, -3 * api.MaxExp, -api.MaxExp, 0, api.MaxExp, mostExp} {
			for _, place := range []int{-api.MaxExp, -api.MaxExp + 1, -300, -1, 0, 1, 300, api.MaxExp - 1, api.MaxExp} {
				holdAll(t, of(digits, exp), place)
				holdAll(t, minus(digits, exp), place)
			}
		}
	}
}

// TestOrder: the order of any two stays, rounded again nothing changes, and Ceiling is never below, Floor never above.
func TestOrder(t *testing.T) {
	list := samples()
	for _, m := range rounding {
		for _, place := range []int{-9, -1, 0, 1, 10} {
			holdOrder(t, m, place, list)
		}
	}
}

func holdOrder(t *testing.T, m, place int, list []api.Dec) {
	t.Helper()
	answers := make([]api.Dec, len(list))
	for i, d := range list {
		answers[i], _ = Round(m, d, place)
		hold(t, m, answers[i], place, answers[i])
		if c := dec.Cmp(answers[i], d); m == api.Ceiling && c < 0 || m == api.Floor && c > 0 {
			t.Errorf("Round(%d, %v, %d) = %v", m, d, place, answers[i])
		}
	}
	for i, a := range list {
		b := (i*7 + 3) % len(list)
		if c := dec.Cmp(answers[i], answers[b]); c != 0 && c != dec.Cmp(a, list[b]) {
			t.Errorf("by way %d at %d the order of %v and %v is another one", m, place, a, list[b])
		}
	}
}

// TestNoDecimals: nothing is promised of other arguments than the chapter's, but that the calls end, without a panic.
func TestNoDecimals(t *testing.T) {
	for _, digits := range []string{"", "x", "1x", "-1", "\xff", "\u0663", "1", "0", "1500", "0001", rep("9", 5000), rep("0", 5000)} {
		for _, exp := range []int{math.MinInt, math.MinInt + 1, -70000, -4001, 0, 4001, 70000, math.MaxInt - 1, math.MaxInt} {
			for _, place := range []int{math.MinInt, math.MinInt + 1, -70000, -1001, 0, 1001, 70000, math.MaxInt - 1, math.MaxInt} {
				for m := -1; m <= api.Exact+1; m++ {
					Round(m, of(digits, exp), place)
					Round(m, minus(digits, exp), place)
				}
				Fits(of(digits, exp), place)
			}
		}
	}
}
