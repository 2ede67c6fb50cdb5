package sig

import (
	"math"
	"math/big"
	"strings"
	"testing"

	"figurehead/api"
	"figurehead/dec"
)

const (
	mostDigits = 4 * api.MaxDigits // of which the chapter speaks
	mostExp    = 4 * api.MaxExp
)

// rounding are the seven ways that round.
var rounding = []int{api.Ceiling, api.Floor, api.Up, api.Down, api.HalfEven, api.HalfUp, api.HalfDown}

// noWays are numbers beside the eight ways.
var noWays = []int{-1, -8, api.Exact + 1, 9, 16, 255, 256, 1 << 32, 1<<32 + api.Up, math.MinInt, math.MinInt + api.Up, math.MaxInt}

// noCounts are counts of digits to which nothing is rounded.
var noCounts = []int{0, -1, -2, -api.MaxExp, -1 << 32, -1<<32 + 1, math.MinInt, math.MinInt + 1}

// of makes a decimal that is not below 0.
func of(digits string, exp int) api.Dec {
	return api.Dec{Digits: digits, Exp: exp}
}

// minus makes the one below 0, -0 too.
func minus(digits string, exp int) api.Dec {
	return api.Dec{Neg: true, Digits: digits, Exp: exp}
}

func rep(s string, n int) string {
	return strings.Repeat(s, n)
}

// hold holds what Round answers against want, with no error.
func hold(t *testing.T, m int, d api.Dec, n int, want api.Dec) {
	t.Helper()
	if got, e := Round(m, d, n); got != want || e != api.OK {
		t.Errorf("Round(%d, %v, %d) = %v, %d, want %v", m, d, n, got, e, want)
	}
}

// holdError holds what Round answers against an error, beside which there is nothing.
func holdError(t *testing.T, m int, d api.Dec, n int, want api.Errno) {
	t.Helper()
	if got, e := Round(m, d, n); got != (api.Dec{}) || e != want {
		t.Errorf("Round(%d, %v, %d) = %v, %d, want the error %d", m, d, n, got, e, want)
	}
}

// TestExamples: the chapter's examples, and the document's that round to digits.
func TestExamples(t *testing.T) {
	hold(t, api.HalfUp, of("12345", 0), 3, of("123", 2))
	hold(t, api.HalfUp, of("9999", -1), 2, of("1", 3))
	hold(t, api.HalfEven, of("12345", 0), 3, of("123", 2))
	hold(t, api.HalfEven, of("12345", -7), 3, of("123", -5))
	holdError(t, api.Exact, of("9999", -1), 2, api.ErrInexact)
}

// TestRound: the answers by Ceiling, Floor, Up, Down, HalfEven, HalfUp and HalfDown of decimals that have more than n digits; each text is how many times ten to the power place they are.
func TestRound(t *testing.T) {
	cases := []struct {
		digits        string
		exp, n, place int
		above, neg    string
	}{
		{"25", -1, 1, 0, "3 2 3 2 2 3 2", "2 3 3 2 2 3 2"},
		{"35", 7, 1, 8, "4 3 4 3 4 4 3", "3 4 4 3 4 4 3"},
		{"21", -9, 1, -8, "3 2 3 2 2 2 2", "2 3 3 2 2 2 2"},
		{"29", 0, 1, 1, "3 2 3 2 3 3 3", "2 3 3 2 3 3 3"},
		{"12345", 0, 3, 2, "124 123 124 123 123 123 123", "123 124 124 123 123 123 123"},
		{"12345", -20, 4, -19, "1235 1234 1235 1234 1234 1235 1234", "1234 1235 1235 1234 1234 1235 1234"},
		{"00012345", -20, 4, -19, "1235 1234 1235 1234 1234 1235 1234", "1234 1235 1235 1234 1234 1235 1234"},
		{"1234500", -22, 4, -19, "1235 1234 1235 1234 1234 1235 1234", "1234 1235 1235 1234 1234 1235 1234"},
		{"12345001", -23, 4, -19, "1235 1234 1235 1234 1235 1235 1235", "1234 1235 1235 1234 1235 1235 1235"},
		{"12335", 3, 4, 4, "1234 1233 1234 1233 1234 1234 1233", "1233 1234 1234 1233 1234 1234 1233"},
		{"9999", -1, 2, 1, "100 99 100 99 100 100 100", "99 100 100 99 100 100 100"},
		{"995", 0, 2, 1, "100 99 100 99 100 100 99", "99 100 100 99 100 100 99"},
		{"985", 0, 2, 1, "99 98 99 98 98 99 98", "98 99 99 98 98 99 98"},
		{"95", -1, 1, 0, "10 9 10 9 10 10 9", "9 10 10 9 10 10 9"},
		{"10001", 0, 1, 4, "2 1 2 1 1 1 1", "1 2 2 1 1 1 1"},
		{"10001", 0, 4, 1, "1001 1000 1001 1000 1000 1000 1000", "1000 1001 1001 1000 1000 1000 1000"},
		{"1000000001", -300, 9, -299, "100000001 100000000 100000001 100000000 100000000 100000000 100000000", "100000000 100000001 100000001 100000000 100000000 100000000 100000000"},
		{"9999999999", -9, 9, -8, "1000000000 999999999 1000000000 999999999 1000000000 1000000000 1000000000", "999999999 1000000000 1000000000 999999999 1000000000 1000000000 1000000000"},
	}
	for _, c := range cases {
		for i, want := range strings.Fields(c.above) {
			hold(t, rounding[i], of(c.digits, c.exp), c.n, dec.Norm(of(want, c.place)))
		}
		for i, want := range strings.Fields(c.neg) {
			hold(t, rounding[i], minus(c.digits, c.exp), c.n, dec.Norm(minus(want, c.place)))
		}
		holdError(t, api.Exact, of(c.digits, c.exp), c.n, api.ErrInexact)
		holdError(t, api.Exact, minus(c.digits, c.exp), c.n, api.ErrInexact)
	}
}

// TestFew: what has no more than n digits stays, by all ways, and is as it should be.
func TestFew(t *testing.T) {
	cases := []struct {
		d    api.Dec
		n    int
		want api.Dec
	}{
		{of("1200", 0), 2, of("12", 2)}, {of("0120", 2), 2, of("12", 3)}, {minus("0120", 2), 3, minus("12", 3)}, {of("12", 0), 2, of("12", 0)}, {of("12", 0), 3, of("12", 0)}, {minus("12", -2), api.MaxExp, minus("12", -2)},
		{of("5", 0), 1, of("5", 0)}, {of("500", -9), 1, of("5", -7)}, {of("0005", 9), 1, of("5", 9)}, {of("10001", 0), 5, of("10001", 0)},
		{of("0", 0), 1, of("0", 0)}, {of("000", -5), 9, of("0", 0)}, {of("0", 7), api.MaxExp, of("0", 0)}, {minus("0", 0), 1, minus("0", 0)}, {minus("000", -5), 2, minus("0", 0)}, {minus("0", mostExp), api.MaxExp, minus("0", 0)},
		{of("1", mostExp), 1, of("1", mostExp)}, {minus("1", -mostExp), api.MaxExp, minus("1", -mostExp)}, {of(rep("9", api.MaxExp), 0), api.MaxExp, of(rep("9", api.MaxExp), 0)},
	}
	for _, c := range cases {
		for _, m := range append([]int{api.Exact}, rounding...) {
			hold(t, m, c.d, c.n, c.want)
		}
	}
}

// TestWrong: what is no way, and too few digits, are told of all decimals, also if nothing would have to be rounded, and ahead of what Exact tells.
func TestWrong(t *testing.T) {
	for _, d := range []api.Dec{of("25", -1), minus("25", -1), of("2", 0), of("0", 0), minus("0", 5)} {
		for _, m := range noWays {
			for _, n := range append([]int{1, 2, 40, api.MaxExp}, noCounts...) {
				holdError(t, m, d, n, api.ErrArg)
			}
		}
		for _, n := range noCounts {
			for _, m := range append([]int{api.Exact}, rounding...) {
				holdError(t, m, d, n, api.ErrArg)
			}
		}
	}
}

func TestPlace(t *testing.T) {
	cases := []struct {
		d        api.Dec
		n, place int
	}{
		{of("0120", 0), 1, 2}, {of("0120", 0), 2, 1}, {of("0120", 0), 3, 0}, {of("0120", 0), 4, -1}, {minus("0120", 2), 2, 3}, {of("12345", 0), 3, 2}, {of("9999", -1), 2, 1},
		{of("12345", -7), 1, -3}, {of("12345", -7), 3, -5}, {of("0005", -2), 1, -2}, {of("5", 0), api.MaxExp, 1 - api.MaxExp},
		{of("0", 0), 1, 0}, {of("000", 7), 1, 0}, {minus("0", -7), 1, 0}, {of("0", 5), 3, -2}, {minus("00", 0), api.MaxExp, 1 - api.MaxExp},
		{of("1", mostExp), 1, mostExp}, {of("1", -mostExp), api.MaxExp, 1 - mostExp - api.MaxExp}, {of(rep("9", mostDigits), mostExp), 1, mostExp + mostDigits - 1}, {of(rep("0", mostDigits-1)+"1", mostExp), 2, mostExp - 1},
	}
	for _, c := range cases {
		if got := Place(c.d, c.n); got != c.place {
			t.Errorf("Place(%v, %d) = %d, want %d", c.d, c.n, got, c.place)
		}
		for _, n := range noCounts {
			if got, want := Place(c.d, n), c.place+c.n-1; got != want {
				t.Errorf("Place(%v, %d) = %d, want %d", c.d, n, got, want)
			}
		}
	}
}

func TestCount(t *testing.T) {
	cases := []struct {
		d    api.Dec
		want int
	}{
		{of("0", 0), 1}, {minus("0", 0), 1}, {of("000", 5), 1}, {of("00", -5), 1}, {of("1", 0), 1}, {of("9", -9), 1}, {of("0120", 0), 2}, {minus("0120", 2), 2}, {of("100", -2), 1}, {of("101", -2), 3}, {of("0010010", 9), 4},
		{of("1000000000", 0), 1}, {of("1000000001", 0), 10}, {of("12345678901234567890", 0), 19}, {of(rep("0", mostDigits), mostExp), 1}, {of(rep("9", mostDigits), -mostExp), mostDigits}, {of("1"+rep("0", mostDigits-1), mostExp), 1}, {minus("1"+rep("0", mostDigits-2)+"1", -mostExp), mostDigits},
	}
	for _, c := range cases {
		if got := Count(c.d); got != c.want {
			t.Errorf("Count(%v) = %d, want %d", c.d, got, c.want)
		}
	}
}

// samples are decimals of all sorts, with both signs: 0 in many forms, noughts ahead, within and at the end, halves and what is just beside them, carries, and the ends of limbs.
func samples() []api.Dec {
	var list []api.Dec
	texts := []string{
		"0", "000", "1", "2", "5", "9", "10", "01", "0120", "25", "35", "50", "95", "99", "0500", "125", "499", "501", "950", "995", "2500001", "2499999", "10000001",
		"999999999", "1000000000", "1000000001", "500000000", "1500000000", "4999999999", "5000000001", "999999999500000000", "15000000000000000000001", "123456789012345678901234567890", rep("9", 30) + "5" + rep("0", 9),
	}
	for _, digits := range texts {
		for _, exp := range []int{-310, -31, -9, -2, -1, 0, 1, 9, 299} {
			list = append(list, of(digits, exp), minus(digits, exp))
		}
	}
	return list
}

// first answers, from the text alone, the place of the first digit that is not 0; 0, if there is none.
func first(d api.Dec) int {
	digits := strings.TrimLeft(d.Digits, "0")
	if digits == "" {
		return 0
	}
	return d.Exp + len(digits) - 1
}

// parts answers, by the library's means: how many times ten to the power place, without a sign, d's neighbour nearer to 0 is; and twice the rest and the step, both times the same power of ten.
func parts(d api.Dec, place int) (times, twice, step *big.Int) {
	low := min(d.Exp, place)
	size, _ := new(big.Int).SetString(d.Digits, 10)
	size.Mul(size, power(d.Exp-low))
	step = power(place - low)
	times, rest := new(big.Int).QuoRem(size, step, new(big.Int))
	return times, rest.Lsh(rest, 1), step
}

// power is ten to the power n, as the library's own.
func power(n int) *big.Int {
	return new(big.Int).Exp(big.NewInt(10), big.NewInt(int64(n)), nil)
}

// away tells whether d is rounded to the neighbour farther from 0: each way as its name says it.
func away(m int, neg bool, times, twice, step *big.Int) bool {
	half := twice.Cmp(step)
	switch m {
	case api.Ceiling:
		return !neg
	case api.Floor:
		return neg
	case api.Up:
		return true
	case api.HalfEven:
		return half > 0 || half == 0 && times.Bit(0) == 1
	case api.HalfUp:
		return half >= 0
	case api.HalfDown:
		return half > 0
	}
	return false
}

// written is size times ten to the power exp, as it should be, made by the library's means.
func written(neg bool, size *big.Int, exp int) api.Dec {
	if size.Sign() == 0 {
		return api.Dec{Neg: neg, Digits: "0"}
	}
	text := size.String()
	digits := strings.TrimRight(text, "0")
	return api.Dec{Neg: neg, Digits: digits, Exp: exp + len(text) - len(digits)}
}

// holdAll holds Place, Count, and Round by all eight ways, of one decimal to n digits against texts and math/big.
func holdAll(t *testing.T, d api.Dec, n int) {
	t.Helper()
	place := first(d) - n + 1
	if got := Place(d, n); got != place {
		t.Errorf("Place(%v, %d) = %d, want %d", d, n, got, place)
	}
	times, twice, step := parts(d, place)
	fits := twice.Sign() == 0
	if got := Count(d) <= n; got != fits {
		t.Errorf("Count(%v) = %d, but is it a multiple at its digit %d: %v", d, Count(d), n, fits)
	}
	for _, m := range rounding {
		size := new(big.Int).Set(times)
		if !fits && away(m, d.Neg, times, twice, step) {
			size.Add(size, big.NewInt(1))
		}
		hold(t, m, d, n, written(d.Neg, size, place))
	}
	if fits {
		hold(t, api.Exact, d, n, written(d.Neg, times, place))
	} else {
		holdError(t, api.Exact, d, n, api.ErrInexact)
	}
}

func TestAgainstLibrary(t *testing.T) {
	for _, d := range samples() {
		for n := 1; n <= 45; n++ {
			holdAll(t, d, n)
		}
	}
}

// TestEndsAgainstLibrary: the greatest decimals of which the chapter speaks, with places beyond MaxExp on either side, to the fewest and the most digits.
func TestEndsAgainstLibrary(t *testing.T) {
	texts := []string{"0", "1", "5", "95", rep("0", mostDigits), rep("9", mostDigits), rep("0", mostDigits-2) + "15", "5" + rep("0", mostDigits-1), "15" + rep("0", mostDigits-3) + "1", "4" + rep("9", mostDigits-1), rep("9", api.MaxExp) + "5", rep("9", api.MaxExp-1) + "5"}
	for _, digits := range texts {
		for _, exp := range []int{-mostExp, -mostExp + 1, -api.MaxExp, 0, api.MaxExp, mostExp} {
			for _, n := range []int{1, 2, 40, api.MaxExp - 1, api.MaxExp} {
				holdAll(t, of(digits, exp), n)
				holdAll(t, minus(digits, exp), n)
			}
		}
	}
}

// TestOrder: the order of any two stays, rounded again nothing changes, there are no more than n digits, and Ceiling is never below, Floor never above.
func TestOrder(t *testing.T) {
	list := samples()
	for _, m := range rounding {
		for _, n := range []int{1, 2, 3, 9, 18, 31} {
			holdOrder(t, m, n, list)
		}
	}
}

func holdOrder(t *testing.T, m, n int, list []api.Dec) {
	t.Helper()
	answers := make([]api.Dec, len(list))
	for i, d := range list {
		answers[i], _ = Round(m, d, n)
		hold(t, m, answers[i], n, answers[i])
		if c := dec.Cmp(answers[i], d); Count(answers[i]) > n || m == api.Ceiling && c < 0 || m == api.Floor && c > 0 {
			t.Errorf("Round(%d, %v, %d) = %v", m, d, n, answers[i])
		}
	}
	for i, a := range list {
		for j, b := range list[:i] {
			if c := dec.Cmp(answers[i], answers[j]); c != 0 && c != dec.Cmp(a, b) {
				t.Errorf("by way %d to %d digits the order of %v and %v is another one", m, n, a, b)
			}
		}
	}
}

// TestNoDecimals: nothing is promised of other arguments than the chapter's, but that the calls end, without a panic.
func TestNoDecimals(t *testing.T) {
	for _, digits := range []string{"", "x", "1x", "-1", "\xff", "\u0663", "1", "0", "1500", "0001", rep("9", 5000), rep("0", 5000)} {
		for _, exp := range []int{math.MinInt, math.MinInt + 1, -70000, -4001, 0, 4001, 70000, math.MaxInt - 1, math.MaxInt} {
			for _, n := range []int{math.MinInt, -70000, 0, 1, 2, 1001, 5000, 70000, math.MaxInt - 1, math.MaxInt} {
				for m := -1; m <= api.Exact+1; m++ {
					Round(m, of(digits, exp), n)
					Round(m, minus(digits, exp), n)
				}
				Place(of(digits, exp), n)
			}
			Count(of(digits, exp))
		}
	}
}
