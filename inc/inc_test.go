package inc

import (
	"math"
	"math/big"
	"strings"
	"testing"

	"figurehead/api"
	"figurehead/dec"
	"figurehead/place"
)

const (
	mostDigits = 4 * api.MaxDigits // of which the chapter speaks
	mostExp    = 4 * api.MaxExp
)

// rounding are the seven ways that round.
var rounding = []int{api.Ceiling, api.Floor, api.Up, api.Down, api.HalfEven, api.HalfUp, api.HalfDown}

// ways are all eight.
var ways = append([]int{api.Exact}, rounding...)

// noWays are numbers beside the eight ways.
var noWays = []int{-1, -8, api.Exact + 1, 9, 16, 255, 256, 1 << 32, 1<<32 + api.Up, math.MinInt, math.MinInt + api.Up, math.MaxInt}

// noSteps are texts that are no steps: without bytes, too long (with 0 ahead, too), with others than digits, and 0.
var noSteps = []string{
	"", "0", "00", rep("0", api.MaxCount), rep("1", api.MaxCount+1), rep("0", api.MaxCount) + "1", rep("9", 500), rep("0", 70000) + "1",
	"x", "5x", "x5", "-1", "+1", "1.5", "1,000", "1e2", " 5", "5 ", "5\x00", "\x00", "5\n", "0x5", "1_0", "/", ":", "5/", ":5", "\xff", "5\xb5", "\u0665", "5\u0665", "\uff15",
}

// of makes a decimal that is not below 0.
func of(digits string, exp int) api.Dec {
	return api.Dec{Digits: digits, Exp: exp}
}

// minus makes the one below 0, -0 too.
func minus(digits string, exp int) api.Dec {
	return api.Dec{Neg: true, Digits: digits, Exp: exp}
}

func rep(s string, n int) string {
	return strings.Repeat(s, n)
}

// hold holds what Round answers against want, with no error.
func hold(t *testing.T, m int, d api.Dec, step string, place int, want api.Dec) {
	t.Helper()
	if got, e := Round(m, d, step, place); got != want || e != api.OK {
		t.Errorf("Round(%d, %v, %q, %d) = %v, %d, want %v", m, d, step, place, got, e, want)
	}
}

// holdError holds what Round answers against an error, beside which there is nothing.
func holdError(t *testing.T, m int, d api.Dec, step string, place int, want api.Errno) {
	t.Helper()
	if got, e := Round(m, d, step, place); got != (api.Dec{}) || e != want {
		t.Errorf("Round(%d, %v, %q, %d) = %v, %d, want the error %d", m, d, step, place, got, e, want)
	}
}

// TestExamples: the chapter's examples, and the document's that round to a step.
func TestExamples(t *testing.T) {
	hold(t, api.HalfUp, of("4", -1), "25", -2, of("5", -1))
	hold(t, api.Down, of("7", 0), "5", 0, of("5", 0))
	hold(t, api.HalfEven, of("25", -1), "1", 0, of("2", 0))
	hold(t, api.HalfEven, minus("4", -1), "1", 0, minus("0", 0))
	holdError(t, api.Exact, of("25", -1), "1", 0, api.ErrInexact)
}

// TestRound: the answers by Ceiling, Floor, Up, Down, HalfEven, HalfUp and HalfDown of decimals that are no multiples; each text is how many times ten to the power place they are.
func TestRound(t *testing.T) {
	cases := []struct {
		digits     string
		exp        int
		step       string
		place      int
		above, neg string
	}{
		{"7", 0, "5", 0, "10 5 10 5 5 5 5", "5 10 10 5 5 5 5"},
		{"8", 0, "5", 0, "10 5 10 5 10 10 10", "5 10 10 5 10 10 10"},
		{"75", -1, "5", 0, "10 5 10 5 10 10 5", "5 10 10 5 10 10 5"},
		{"125", -1, "5", 0, "15 10 15 10 10 15 10", "10 15 15 10 10 15 10"},
		{"75" + rep("0", 40) + "1", -42, "5", 0, "10 5 10 5 10 10 10", "5 10 10 5 10 10 10"},
		{"124" + rep("9", 40), -41, "5", 0, "15 10 15 10 10 10 10", "10 15 15 10 10 10 10"},
		{"1", 0, "2", 0, "2 0 2 0 0 2 0", "0 2 2 0 0 2 0"},
		{"3", 0, "2", 0, "4 2 4 2 4 4 2", "2 4 4 2 4 4 2"},
		{"5", 0, "2", 0, "6 4 6 4 4 6 4", "4 6 6 4 4 6 4"},
		{"15", -1, "3", 0, "3 0 3 0 0 3 0", "0 3 3 0 0 3 0"},
		{"1", 0, "3", 0, "3 0 3 0 0 0 0", "0 3 3 0 0 0 0"},
		{"2", 0, "3", 0, "3 0 3 0 3 3 3", "0 3 3 0 3 3 3"},
		{"10", 0, "3", 0, "12 9 12 9 9 9 9", "9 12 12 9 9 9 9"},
		{"375", -3, "25", -2, "50 25 50 25 50 50 25", "25 50 50 25 50 50 25"},
		{"625", -3, "25", -2, "75 50 75 50 50 75 50", "50 75 75 50 50 75 50"},
		{"000625000", -6, "0025", -2, "75 50 75 50 50 75 50", "50 75 75 50 50 75 50"},
		{"625", -3, "250", -3, "750 500 750 500 500 750 500", "500 750 750 500 500 750 500"},
		{"1", 0, "3", -1, "12 9 12 9 9 9 9", "9 12 12 9 9 9 9"},
		{"5", 2, "3", 0, "501 498 501 498 501 501 501", "498 501 501 498 501 501 501"},
		{"7", 0, "5", 2, "5 0 5 0 0 0 0", "0 5 5 0 0 0 0"},
		{"250", 0, "5", 2, "5 0 5 0 0 5 0", "0 5 5 0 0 5 0"},
		{"75", 1, "5", 2, "10 5 10 5 10 10 5", "5 10 10 5 10 10 5"},
		{"1", -300, "999", 9, "999 0 999 0 0 0 0", "0 999 999 0 0 0 0"},
		{"999999999", 0, "2", 0, "1000000000 999999998 1000000000 999999998 1000000000 1000000000 999999998", "999999998 1000000000 1000000000 999999998 1000000000 1000000000 999999998"},
		{"4999999995", 0, "10", 0, "5000000000 4999999990 5000000000 4999999990 5000000000 5000000000 4999999990", "4999999990 5000000000 5000000000 4999999990 5000000000 5000000000 4999999990"},
		{"10000000000", -1, "999999999", 0, "1999999998 999999999 1999999998 999999999 999999999 999999999 999999999", "999999999 1999999998 1999999998 999999999 999999999 999999999 999999999"},
		{"1000000000000000001", 0, "1000000000", 0, "1000000001000000000 1000000000000000000 1000000001000000000 1000000000000000000 1000000000000000000 1000000000000000000 1000000000000000000", "1000000000000000000 1000000001000000000 1000000001000000000 1000000000000000000 1000000000000000000 1000000000000000000 1000000000000000000"},
		{"1", 0, rep("9", api.MaxCount), -api.MaxCount, "1" + rep("9", api.MaxCount-1) + "8 " + rep("9", api.MaxCount) + " 1" + rep("9", api.MaxCount-1) + "8" + rep(" "+rep("9", api.MaxCount), 4), rep("9", api.MaxCount) + rep(" 1"+rep("9", api.MaxCount-1)+"8", 2) + rep(" "+rep("9", api.MaxCount), 4)},
	}
	for _, c := range cases {
		for i, want := range strings.Fields(c.above) {
			hold(t, rounding[i], of(c.digits, c.exp), c.step, c.place, dec.Norm(of(want, c.place)))
		}
		for i, want := range strings.Fields(c.neg) {
			hold(t, rounding[i], minus(c.digits, c.exp), c.step, c.place, dec.Norm(minus(want, c.place)))
		}
		holdError(t, api.Exact, of(c.digits, c.exp), c.step, c.place, api.ErrInexact)
		holdError(t, api.Exact, minus(c.digits, c.exp), c.step, c.place, api.ErrInexact)
	}
}

// TestMultiples: what is a multiple stays, by all ways, and is as it should be.
func TestMultiples(t *testing.T) {
	cases := []struct {
		d     api.Dec
		step  string
		place int
		want  api.Dec
	}{
		{of("900", 0), "3", 2, of("9", 2)}, {of("0120", 2), "12", 3, of("12", 3)}, {minus("0120", 2), "4", -7, minus("12", 3)}, {of("50", -2), "25", -2, of("5", -1)}, {minus("750", -3), "25", -2, minus("75", -2)}, {of("15", 0), "005", 0, of("15", 0)}, {of("1", 2), "25", 0, of("1", 2)}, {of("1", 0), "125", -3, of("1", 0)},
		{of("0", 0), "7", 0, of("0", 0)}, {of("000", -5), "7", 9, of("0", 0)}, {of("0", 7), "1", -3, of("0", 0)}, {minus("0", 0), "7", 0, minus("0", 0)}, {minus("000", -5), "25", 9, minus("0", 0)}, {minus("00", -mostExp), rep("9", api.MaxCount), api.MaxExp, minus("0", 0)}, {of(rep("0", mostDigits), mostExp), "3", -api.MaxExp, of("0", 0)},
		{of(rep("9", api.MaxCount), 0), rep("9", api.MaxCount), 0, of(rep("9", api.MaxCount), 0)}, {of(rep("9", mostDigits), -api.MaxExp), rep("9", api.MaxCount), -api.MaxExp, of(rep("9", mostDigits), -api.MaxExp)}, {of("1", 0), rep("0", api.MaxCount-1) + "1", 0, of("1", 0)}, {of("5", api.MaxExp), "5", api.MaxExp, of("5", api.MaxExp)}, {minus("1", mostExp), "64", api.MaxExp, minus("1", mostExp)},
	}
	for _, c := range cases {
		for _, m := range ways {
			hold(t, m, c.d, c.step, c.place, c.want)
		}
	}
}

// TestWrong: what is no way, and what is no step, are told of all decimals, also if nothing would have to be rounded, and ahead of what Exact tells.
func TestWrong(t *testing.T) {
	for _, d := range []api.Dec{of("25", -1), minus("25", -1), of("5", 0), of("0", 0), minus("0", 5)} {
		for _, place := range []int{-api.MaxExp, -1, 0, 1, api.MaxExp} {
			for _, m := range noWays {
				for _, step := range append([]string{"1", "5", "005", rep("9", api.MaxCount)}, noSteps...) {
					holdError(t, m, d, step, place, api.ErrArg)
				}
			}
			for _, step := range noSteps {
				for _, m := range ways {
					holdError(t, m, d, step, place, api.ErrArg)
				}
			}
		}
	}
}

// TestBytes: of all single bytes 1 to 9 are steps alone; beside a 1, all of 0 to 9.
func TestBytes(t *testing.T) {
	for b := range 256 {
		step := string([]byte{byte(b)})
		digit := b >= '0' && b <= '9'
		if _, e := Round(api.Up, of("7", 0), step, 0); (e == api.OK) != (digit && b != '0') {
			t.Errorf("of the step %q Round tells %d", step, e)
		}
		for _, both := range []string{"1" + step, step + "1"} {
			if _, e := Round(api.Up, of("7", 0), both, 0); (e == api.OK) != digit {
				t.Errorf("of the step %q Round tells %d", both, e)
			}
		}
	}
}

// samples are decimals of all sorts, with both signs: 0 in many forms, noughts ahead, within and at the end, halves and what is just beside them, and the ends of limbs.
func samples() []api.Dec {
	var list []api.Dec
	texts := []string{
		"0", "000", "1", "2", "3", "5", "7", "10", "01", "0120", "25", "35", "375", "0500", "625", "995", "1875", "2500001", "2499999",
		"999999999", "1000000001", "500000000", "1500000000", "4999999995", "5000000001", "999999999500000000", "123456789012345678901234567890", rep("9", 30) + "5" + rep("0", 9),
	}
	for _, digits := range texts {
		for _, exp := range []int{-31, -10, -3, -2, -1, 0, 1, 9} {
			list = append(list, of(digits, exp), minus(digits, exp))
		}
	}
	return list
}

// steps are steps of all sorts: with and without 0 ahead and at the end, even and odd, primes, and the ends of limbs and of MaxCount.
func steps() []string {
	return []string{"1", "2", "3", "5", "7", "10", "12", "25", "0025", "125", "250", "999", "999999999", "1000000000", "1000000001", "00500000000", "2000000000000000001", rep("9", api.MaxCount), "1" + rep("0", api.MaxCount-1), rep("0", api.MaxCount-1) + "5"}
}

// power is ten to the power n, as the library's own.
func power(n int) *big.Int {
	return new(big.Int).Exp(big.NewInt(10), big.NewInt(int64(n)), nil)
}

// size is text's digits times ten to the power n, as the library reads them.
func size(text string, n int) *big.Int {
	read, _ := new(big.Int).SetString(text, 10)
	return read.Mul(read, power(n))
}

// about answers, by the library's means, how many times the step the multiples about d are, the one that is not above d and the one that is not below it; and -1, 0 or 1, as d is nearer to the first, in the middle, or nearer to the second.
func about(d api.Dec, step string, place int) (below, above *big.Int, nearer int) {
	low := min(d.Exp, place)
	value, width := size(d.Digits, d.Exp-low), size(step, place-low)
	if d.Neg {
		value.Neg(value)
	}
	below, rest := new(big.Int).DivMod(value, width, new(big.Int))
	if rest.Sign() == 0 {
		return below, below, 0
	}
	above = new(big.Int).Add(below, big.NewInt(1))
	return below, above, rest.Lsh(rest, 1).Cmp(width)
}

// chosen is the one of both that way m's name tells.
func chosen(m int, below, above *big.Int, nearer int) *big.Int {
	small, great := below, above
	if below.CmpAbs(above) > 0 {
		small, great = above, below
	}
	switch {
	case m == api.Ceiling:
		return above
	case m == api.Floor:
		return below
	case m == api.Up:
		return great
	case m == api.Down:
		return small
	case nearer < 0:
		return below
	case nearer > 0:
		return above
	case m == api.HalfUp:
		return great
	case m == api.HalfEven && small.Bit(0) == 1:
		return great
	}
	return small
}

// written is times the step, with the sign that is told, as it should be, made by the library's means.
func written(neg bool, times *big.Int, step string, place int) api.Dec {
	product := new(big.Int).Mul(times, size(step, 0))
	if product.Sign() == 0 {
		return api.Dec{Neg: neg, Digits: "0"}
	}
	text := product.Abs(product).String()
	digits := strings.TrimRight(text, "0")
	return api.Dec{Neg: neg, Digits: digits, Exp: place + len(text) - len(digits)}
}

// holdAll holds Round by all eight ways, of one decimal to one step, against math/big.
func holdAll(t *testing.T, d api.Dec, step string, place int) {
	t.Helper()
	below, above, nearer := about(d, step, place)
	for _, m := range rounding {
		hold(t, m, d, step, place, written(d.Neg, chosen(m, below, above, nearer), step, place))
	}
	if below == above {
		hold(t, api.Exact, d, step, place, written(d.Neg, below, step, place))
	} else {
		holdError(t, api.Exact, d, step, place, api.ErrInexact)
	}
}

func TestAgainstLibrary(t *testing.T) {
	for _, d := range samples() {
		for _, step := range steps() {
			for _, place := range []int{-40, -18, -10, -9, -3, -2, -1, 0, 1, 9, 20} {
				holdAll(t, d, step, place)
			}
		}
	}
}

// TestEndsAgainstLibrary: the greatest decimals of which the chapter speaks, to steps at the places at both ends.
func TestEndsAgainstLibrary(t *testing.T) {
	texts := []string{"0", "1", "75", rep("0", mostDigits), rep("9", mostDigits), rep("0", mostDigits-1) + "5", "5" + rep("0", mostDigits-2) + "1", "12" + rep("4", mostDigits-2)}
	for _, digits := range texts {
		for _, exp := range []int{-mostExp, -mostExp + 1, -api.MaxExp, 0, api.MaxExp, mostExp} {
			for _, step := range []string{"1", "25", "2000000000000000001", rep("9", api.MaxCount)} {
				for _, place := range []int{-api.MaxExp, -1, 0, 1, api.MaxExp} {
					holdAll(t, of(digits, exp), step, place)
					holdAll(t, minus(digits, exp), step, place)
				}
			}
		}
	}
}

// TestPowers: to a step that is a power of ten all goes as chapter 8 has it at that power's place.
func TestPowers(t *testing.T) {
	for _, d := range samples() {
		for noughts := range 12 {
			for _, at := range []int{-30, -10, -2, 0, 3} {
				for _, m := range ways {
					want, wantError := place.Round(m, d, at+noughts)
					if got, e := Round(m, d, "1"+rep("0", noughts), at); got != want || e != wantError {
						t.Errorf("Round(%d, %v, 1 and %d noughts, %d) = %v, %d, want %v, %d", m, d, noughts, at, got, e, want, wantError)
					}
				}
			}
		}
	}
}

// TestOrder: the order of any two stays, rounded again nothing changes, and Ceiling is never below, Floor never above.
func TestOrder(t *testing.T) {
	list := samples()
	for _, m := range rounding {
		for _, step := range []string{"5", "12", "999999999"} {
			for _, place := range []int{-9, 0} {
				holdOrder(t, m, step, place, list)
			}
		}
	}
}

func holdOrder(t *testing.T, m int, step string, place int, list []api.Dec) {
	t.Helper()
	answers := make([]api.Dec, len(list))
	for i, d := range list {
		answers[i], _ = Round(m, d, step, place)
		hold(t, m, answers[i], step, place, answers[i])
		if c := dec.Cmp(answers[i], d); m == api.Ceiling && c < 0 || m == api.Floor && c > 0 {
			t.Errorf("Round(%d, %v, %q, %d) = %v", m, d, step, place, answers[i])
		}
	}
	for i, a := range list {
		for j, b := range list[:i] {
			if c := dec.Cmp(answers[i], answers[j]); c != 0 && c != dec.Cmp(a, b) {
				t.Errorf("by way %d to %q at %d the order of %v and %v is another one", m, step, place, a, b)
			}
		}
	}
}

// TestNoDecimals: nothing is promised of other arguments than the chapter's, but that the calls end, without a panic.
func TestNoDecimals(t *testing.T) {
	for _, digits := range []string{"", "x", "1x", "-1", "\xff", "\u0663", "1", "0", "1500", "0001", rep("9", 5000), rep("0", 5000)} {
		for _, exp := range []int{math.MinInt, math.MinInt + 1, -70000, -4001, 0, 4001, 70000, math.MaxInt - 1, math.MaxInt} {
			for _, place := range []int{math.MinInt, math.MinInt + 1, -70000, -1001, 0, 1001, 70000, math.MaxInt - 1, math.MaxInt} {
				for _, step := range []string{"", "x", "0", "7", "1" + rep("0", 17) + "3"} {
					for m := -1; m <= api.Exact+1; m++ {
						Round(m, of(digits, exp), step, place)
						Round(m, minus(digits, exp), step, place)
					}
				}
			}
		}
	}
}
