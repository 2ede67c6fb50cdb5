package arith

import (
	"math"
	"math/big"
	"strings"
	"testing"

	"figurehead/api"
	"figurehead/dec"
)

const (
	mostDigits = 4 * api.MaxDigits // of which the chapter speaks
	mostExp    = 4 * api.MaxExp
)

// of makes a decimal that is not below 0.
func of(digits string, exp int) api.Dec {
	return api.Dec{Digits: digits, Exp: exp}
}

// minus makes the one below 0, -0 too.
func minus(digits string, exp int) api.Dec {
	return api.Dec{Neg: true, Digits: digits, Exp: exp}
}

func rep(s string, n int) string {
	return strings.Repeat(s, n)
}

// samples are decimals of all sorts, with both signs: 0 in many forms, noughts ahead, within and at the end, and the ends of limbs.
func samples() []api.Dec {
	var list []api.Dec
	texts := []string{
		"0", "000", "1", "2", "5", "9", "10", "01", "0120", "102", "0099900", "25", "125",
		"999999999", "1000000000", "1000000001", "999999999000000000", "123456789012345678901234567890", "1" + rep("0", 40) + "1", rep("9", 50) + rep("0", 30),
	}
	for _, digits := range texts {
		for _, exp := range []int{-45, -10, -9, -2, -1, 0, 1, 9, 30} {
			list = append(list, of(digits, exp), minus(digits, exp))
		}
	}
	return list
}

// ends are decimals at the ends of what the chapter speaks of.
func ends() []api.Dec {
	var list []api.Dec
	texts := []string{"0", "1", "9", rep("0", mostDigits), rep("9", mostDigits), rep("0", mostDigits-1) + "1", "1" + rep("0", mostDigits-1), "1" + rep("0", mostDigits-2) + "1"}
	for _, digits := range texts {
		for _, exp := range []int{-mostExp, -api.MaxExp, 0, api.MaxExp, mostExp} {
			list = append(list, of(digits, exp), minus(digits, exp))
		}
	}
	return list
}

// scaled is d's value times ten to the power -low, as the library's own; low is at most d's Exp.
func scaled(d api.Dec, low int) *big.Int {
	value, _ := new(big.Int).SetString(d.Digits, 10)
	value.Mul(value, new(big.Int).Exp(big.NewInt(10), big.NewInt(int64(d.Exp-low)), nil))
	if d.Neg {
		value.Neg(value)
	}
	return value
}

// written is value times ten to the power low, as it should be, made by the library's means; 0 has no sign.
func written(value *big.Int, low int) api.Dec {
	if value.Sign() == 0 {
		return of("0", 0)
	}
	text := new(big.Int).Abs(value).String()
	digits := strings.TrimRight(text, "0")
	return api.Dec{Neg: value.Sign() < 0, Digits: digits, Exp: low + len(text) - len(digits)}
}

// isZero tells whether all of d's digits are 0.
func isZero(d api.Dec) bool {
	return strings.Trim(d.Digits, "0") == ""
}

func TestScale(t *testing.T) {
	cases := []struct {
		d    api.Dec
		n    int
		want api.Dec
	}{
		{of("1", 0), 0, of("1", 0)}, {of("1", 0), 5, of("1", 5)}, {of("1", 0), -5, of("1", -5)}, {of("25", -2), 2, of("25", 0)},
		{minus("25", -2), 1, minus("25", -1)}, {of("0120", 2), 0, of("12", 3)}, {of("0120", 2), -3, of("12", 0)}, {minus("00100", 0), 1, minus("1", 3)},
		{of("0", 0), 7, of("0", 0)}, {of("000", 4), -4, of("0", 0)}, {minus("0", 0), 0, minus("0", 0)}, {minus("0", 0), 7, minus("0", 0)}, {minus("00", -9), -7, minus("0", 0)},
		{of("1", 0), api.MaxExp, of("1", 1000)}, {of("1", 0), -api.MaxExp, of("1", -1000)}, {of("1", 4000), 1000, of("1", 5000)}, {minus("1", -4000), -1000, minus("1", -5000)},
		{of("1"+rep("0", mostDigits-1), 4000), 1000, of("1", 8999)}, {of(rep("9", mostDigits), -4000), -1000, of(rep("9", mostDigits), -5000)}, {minus(rep("0", mostDigits), 4000), 1000, minus("0", 0)},
	}
	for _, c := range cases {
		if got := Scale(c.d, c.n); got != c.want {
			t.Errorf("Scale(%v, %d) = %v, want %v", c.d, c.n, got, c.want)
		}
	}
	for _, d := range samples() {
		for _, n := range []int{-api.MaxExp, -10, -1, 0, 1, 9, api.MaxExp} {
			want := written(scaled(d, d.Exp), d.Exp+n)
			want.Neg = d.Neg
			if got := Scale(d, n); got != want {
				t.Errorf("Scale(%v, %d) = %v, want %v", d, n, got, want)
			}
		}
	}
}

func TestNegAbs(t *testing.T) {
	cases := []struct{ d, neg, abs api.Dec }{
		{of("1", 0), minus("1", 0), of("1", 0)}, {minus("1", 0), of("1", 0), of("1", 0)}, {of("0120", 2), minus("12", 3), of("12", 3)}, {minus("0120", 2), of("12", 3), of("12", 3)},
		{of("0", 0), minus("0", 0), of("0", 0)}, {minus("0", 0), of("0", 0), of("0", 0)}, {of("000", 3), minus("0", 0), of("0", 0)}, {minus("000", -3), of("0", 0), of("0", 0)},
		{of("1", 4000), minus("1", 4000), of("1", 4000)}, {minus("10", -4000), of("1", -3999), of("1", -3999)},
	}
	for _, c := range cases {
		if got := Neg(c.d); got != c.neg {
			t.Errorf("Neg(%v) = %v, want %v", c.d, got, c.neg)
		}
		if got := Abs(c.d); got != c.abs {
			t.Errorf("Abs(%v) = %v, want %v", c.d, got, c.abs)
		}
	}
	for _, d := range append(samples(), ends()...) {
		want := written(scaled(of(d.Digits, 0), 0), d.Exp)
		if got := Abs(d); got != want {
			t.Errorf("Abs(%v) = %v", d, got)
		}
		want.Neg = !d.Neg
		if got := Neg(d); got != want {
			t.Errorf("Neg(%v) = %v", d, got)
		}
	}
}

func TestAdd(t *testing.T) {
	cases := []struct{ a, b, want api.Dec }{
		{of("1", 0), of("1", 0), of("2", 0)}, {of("1", 0), of("25", -2), of("125", -2)}, {of("5", 0), of("5", 0), of("1", 1)}, {of("75", -2), of("25", -2), of("1", 0)},
		{of("1", 0), minus("25", -2), of("75", -2)}, {minus("1", 0), of("25", -2), minus("75", -2)}, {minus("1", 0), minus("25", -2), minus("125", -2)}, {of("1", 0), minus("2", 0), minus("1", 0)},
		{of("0120", 2), of("00", 7), of("12", 3)}, {minus("0120", 2), of("0", 0), minus("12", 3)}, {of("0", -3), of("0120", 2), of("12", 3)}, {minus("0", 0), minus("5", 1), minus("5", 1)},
		{of("1", 0), minus("1", 0), of("0", 0)}, {minus("1", 0), of("1", 0), of("0", 0)}, {minus("12", 3), of("012000", 0), of("0", 0)}, {of("1", 2), minus("100", 0), of("0", 0)},
		{of("0", 0), of("0", 0), of("0", 0)}, {minus("0", 0), minus("0", 0), of("0", 0)}, {minus("00", 5), of("0", 0), of("0", 0)}, {of("0", 0), minus("000", -5), of("0", 0)},
		{of("999999999", 0), of("1", 0), of("1", 9)}, {of("1", 9), minus("1", 0), of("999999999", 0)}, {of("999999999999999999", -9), of("1", -9), of("1", 9)},
		{of("1", 20), of("1", -20), of("1"+rep("0", 39)+"1", -20)}, {of("1", 20), minus("1", -20), of(rep("9", 40), -20)}, {minus("1", 20), of("1", -20), minus(rep("9", 40), -20)},
	}
	for _, c := range cases {
		if got := Add(c.a, c.b); got != c.want {
			t.Errorf("Add(%v, %v) = %v, want %v", c.a, c.b, got, c.want)
		}
		if got := Add(c.b, c.a); got != c.want {
			t.Errorf("Add(%v, %v) = %v, want %v", c.b, c.a, got, c.want)
		}
	}
}

func TestSub(t *testing.T) {
	cases := []struct{ a, b, want api.Dec }{
		{of("1", 0), of("25", -2), of("75", -2)}, {of("25", -2), of("1", 0), minus("75", -2)}, {minus("1", 0), of("25", -2), minus("125", -2)}, {of("1", 0), minus("25", -2), of("125", -2)}, {minus("1", 0), minus("25", -2), minus("75", -2)},
		{of("0120", 2), of("0", 9), of("12", 3)}, {of("0", 9), of("0120", 2), minus("12", 3)}, {minus("0", 0), minus("0120", 2), of("12", 3)},
		{of("1", 0), of("1", 0), of("0", 0)}, {minus("1", 0), minus("1", 0), of("0", 0)}, {of("12", 3), of("012000", 0), of("0", 0)},
		{of("0", 0), of("0", 0), of("0", 0)}, {minus("0", 0), of("0", 0), of("0", 0)}, {of("0", 0), minus("0", 0), of("0", 0)}, {minus("0", 3), minus("00", -3), of("0", 0)},
		{of("1", 18), of("1", 0), of(rep("9", 18), 0)}, {of("1", 0), of("1", 18), minus(rep("9", 18), 0)},
	}
	for _, c := range cases {
		if got := Sub(c.a, c.b); got != c.want {
			t.Errorf("Sub(%v, %v) = %v, want %v", c.a, c.b, got, c.want)
		}
	}
}

func TestMul(t *testing.T) {
	cases := []struct{ a, b, want api.Dec }{
		{of("2", 0), of("3", 0), of("6", 0)}, {of("2", 0), of("5", 0), of("1", 1)}, {of("25", -2), of("4", 0), of("1", 0)}, {of("12", 3), of("12", -3), of("144", 0)}, {of("0120", 2), of("1", 0), of("12", 3)},
		{minus("2", 0), of("3", 0), minus("6", 0)}, {minus("2", 0), minus("3", 0), of("6", 0)}, {minus("003", -1), minus("20", 5), of("6", 5)}, {minus("1", 0), of("0120", 2), minus("12", 3)},
		{of("0", 0), of("5", 3), of("0", 0)}, {of("000", 7), of("5", -3), of("0", 0)}, {of("0", 0), minus("5", 3), of("0", 0)}, {minus("0", 0), of("5", 3), of("0", 0)}, {minus("0", 0), minus("5", 3), of("0", 0)},
		{of("0", 0), minus("0", 0), of("0", 0)}, {minus("00", 1), minus("0", -1), of("0", 0)}, {of("0", 4), of("0", 4), of("0", 0)},
		{of("999999999", 0), of("999999999", 0), of("999999998000000001", 0)}, {of("1", 4000), of("1", -4000), of("1", 0)}, {of("1", 4000), of("1", 4000), of("1", 8000)}, {minus("1", -4000), of("1", -4000), minus("1", -8000)},
	}
	for _, c := range cases {
		if got := Mul(c.a, c.b); got != c.want {
			t.Errorf("Mul(%v, %v) = %v, want %v", c.a, c.b, got, c.want)
		}
		if got := Mul(c.b, c.a); got != c.want {
			t.Errorf("Mul(%v, %v) = %v, want %v", c.b, c.a, got, c.want)
		}
	}
}

// holdPair holds Add, Sub and Mul of one pair against math/big.
func holdPair(t *testing.T, a, b api.Dec) {
	t.Helper()
	low := min(a.Exp, b.Exp)
	x, y := scaled(a, low), scaled(b, low)
	if got, want := Add(a, b), written(new(big.Int).Add(x, y), low); got != want {
		t.Errorf("Add(%v, %v) = %v, want %v", a, b, got, want)
	}
	if got, want := Sub(a, b), written(new(big.Int).Sub(x, y), low); got != want {
		t.Errorf("Sub(%v, %v) = %v, want %v", a, b, got, want)
	}
	product := new(big.Int).Mul(scaled(a, a.Exp), scaled(b, b.Exp))
	if got, want := Mul(a, b), written(product, a.Exp+b.Exp); got != want {
		t.Errorf("Mul(%v, %v) = %v, want %v", a, b, got, want)
	}
}

func TestAgainstLibrary(t *testing.T) {
	list := samples()
	for _, a := range list {
		for _, b := range list {
			holdPair(t, a, b)
		}
	}
}

// TestEndsAgainstLibrary: the greatest decimals of which the chapter speaks, as far apart as may be.
func TestEndsAgainstLibrary(t *testing.T) {
	list := ends()
	for i, a := range list {
		for j, b := range list {
			// The long ones take their time: each is held against some alone.
			if (i+j)%7 == 0 {
				holdPair(t, a, b)
			}
		}
	}
	for _, digits := range []string{"1", rep("9", mostDigits)} {
		holdPair(t, of(digits, mostExp), minus(rep("9", mostDigits), -mostExp))
		holdPair(t, minus(digits, -mostExp), of(rep("9", mostDigits), mostExp))
	}
}

// TestAsItShouldBe: every answer is its own Norm; 0 among them has a sign from Scale and Neg alone.
func TestAsItShouldBe(t *testing.T) {
	list := samples()
	for i, a := range list {
		b := list[(i*7+3)%len(list)]
		for _, d := range []api.Dec{Scale(a, -3), Neg(a), Abs(a), Add(a, b), Sub(a, b), Mul(a, b), Sub(a, a), Add(a, Neg(a))} {
			if dec.Norm(d) != d {
				t.Errorf("of %v and %v: %v", a, b, d)
			}
		}
		for _, d := range []api.Dec{Abs(a), Add(a, b), Sub(a, b), Mul(a, b), Sub(a, a), Add(a, Neg(a))} {
			if isZero(d) && d.Neg {
				t.Errorf("of %v and %v: -0", a, b)
			}
		}
	}
}

// TestNoDecimals: nothing is promised of others than chapter 5's, but that the calls end, without a panic.
func TestNoDecimals(t *testing.T) {
	list := []api.Dec{{}}
	for _, digits := range []string{"", "x", "1x", "-1", "\xff", "\u0663", "1", "0", "1000", "0001", rep("9", 5000), rep("0", 5000)} {
		for _, exp := range []int{math.MinInt, math.MinInt + 1, -70000, -4001, 0, 4001, 70000, math.MaxInt - 2, math.MaxInt} {
			list = append(list, of(digits, exp), minus(digits, exp))
		}
	}
	for _, a := range list {
		Neg(a)
		Abs(a)
		for _, n := range []int{math.MinInt, -1001, 0, 1001, math.MaxInt} {
			Scale(a, n)
		}
		for _, b := range list {
			Add(a, b)
			Sub(a, b)
			Mul(a, b)
		}
	}
}
