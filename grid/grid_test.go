package grid

import (
	"math"
	"math/big"
	"math/rand"
	"reflect"
	"slices"
	"strings"
	"testing"
	"unsafe"

	"figurehead/api"
	"figurehead/arith"
	"figurehead/dec"
	"figurehead/pattern"
	"figurehead/print"
	"figurehead/shape"
)

// rounding are the seven ways that round; by the three last ones it is at most half a step.
var rounding = []int{api.Ceiling, api.Floor, api.Up, api.Down, api.HalfEven, api.HalfUp, api.HalfDown}

// nines are the greatest number in range.
var nines = rep("9", api.MaxPlace)

// of makes a decimal that is not below 0.
func of(digits string, exp int) api.Dec {
	return api.Dec{Digits: digits, Exp: exp}
}

// minus makes the one below 0, -0 too.
func minus(digits string, exp int) api.Dec {
	return api.Dec{Neg: true, Digits: digits, Exp: exp}
}

func rep(s string, n int) string {
	return strings.Repeat(s, n)
}

// compiled is the pattern that the text tells.
func compiled(t *testing.T, text string) api.Pattern {
	t.Helper()
	p, fault := pattern.Compile(text)
	if fault != (api.Fault{}) {
		t.Fatalf("%q is no pattern: %v", text, fault)
	}
	return p
}

// power is ten to the power n, as the library's own.
func power(n int) *big.Rat {
	size := new(big.Int).Exp(big.NewInt(10), big.NewInt(int64(max(n, -n))), nil)
	if n < 0 {
		return new(big.Rat).SetFrac(big.NewInt(1), size)
	}
	return new(big.Rat).SetInt(size)
}

// value is d, as the library's own.
func value(d api.Dec) *big.Rat {
	coef, _ := new(big.Int).SetString(d.Digits, 10)
	x := new(big.Rat).Mul(new(big.Rat).SetInt(coef), power(d.Exp))
	if d.Neg {
		x.Neg(x)
	}
	return x
}

// sized is the value without a sign.
func sized(d api.Dec) *big.Rat {
	return value(of(d.Digits, d.Exp))
}

// asItShould tells from the text alone whether d is as it should be.
func asItShould(d api.Dec) bool {
	if d.Digits == "0" {
		return d.Exp == 0
	}
	return d.Digits != "" && strings.Trim(d.Digits, "0") == d.Digits
}

// multOf is to which power of ten p multiplies.
func multOf(p api.Pattern) int {
	for _, one := range slices.Concat(p.Prefix, p.Suffix, p.NegPrefix, p.NegSuffix) {
		switch one.Kind {
		case api.Percent:
			return 2
		case api.Permille:
			return 3
		}
	}
	return 0
}

// mostOf is how many digits p, which is Sci or has an @, writes at most, by chapter 19's words.
func mostOf(p api.Pattern) int {
	eng := p.Sci && p.MaxInt > p.MinInt && p.MaxInt > 1
	switch {
	case p.MinSig > 0:
		return p.MaxSig
	case eng && p.MinInt == 0, p.MinInt == 0 && p.MaxFrac == 0:
		return 1 + p.MaxFrac
	}
	return p.MinInt + p.MaxFrac
}

// topOf is the greatest place at which x has another digit than 0; 0 of 0.
func topOf(x *big.Rat) int {
	if x.Sign() == 0 {
		return 0
	}
	top := len(x.Num().String()) - len(x.Denom().String())
	for x.Cmp(power(top)) < 0 {
		top--
	}
	for x.Cmp(power(top+1)) >= 0 {
		top++
	}
	return top
}

// stepOf is what the chapter's words make of Step.
func stepOf(p api.Pattern, d api.Dec) *big.Rat {
	mult := multOf(p)
	step := power(-p.MaxFrac)
	switch {
	case p.Sci || p.MinSig > 0:
		written := new(big.Rat).Mul(sized(d), power(mult))
		step = power(topOf(written) - mostOf(p) + 1)
	case p.Inc != "":
		step = value(of(p.Inc, -p.MaxFrac))
	}
	return step.Mul(step, power(-mult))
}

// holdStep holds Step against what is wanted.
func holdStep(t *testing.T, text string, d, want api.Dec) {
	t.Helper()
	p := compiled(t, text)
	if got := Step(p, d); got != want {
		t.Errorf("Step(%q, %v) = %v, want %v", text, d, got, want)
	}
	if words := stepOf(p, d); words.Cmp(value(want)) != 0 {
		t.Errorf("the words make %v of %q and %v", words, text, d)
	}
}

// holdIs holds Is against what is wanted, and both against Round by Exact.
func holdIs(t *testing.T, text string, d api.Dec, want bool) {
	t.Helper()
	p := compiled(t, text)
	if got := Is(p, d); got != want {
		t.Errorf("Is(%q, %v) = %v", text, d, got)
	}
	exact, e := shape.Round(p, api.Exact, d)
	if (e == api.OK) != want || want && exact != dec.Norm(d) {
		t.Errorf("Round(%q, Exact, %v) = %v, %d", text, d, exact, e)
	}
}

// holdOff holds Off against what is wanted, both ways round.
func holdOff(t *testing.T, a, b, want api.Dec) {
	t.Helper()
	if got, back := Off(a, b), Off(b, a); got != want || back != want {
		t.Errorf("Off(%v, %v) = %v, and %v the other way round, want %v", a, b, got, back, want)
	}
}

// TestExamples: the chapter's example, and how far off the document's are.
func TestExamples(t *testing.T) {
	holdStep(t, "#,##0.00%", of("5", 0), of("1", -4))
	for _, c := range []struct {
		text            string
		m               int
		d, rounded      api.Dec
		step, off       api.Dec
		before, written bool // is it what Exact answers, ahead of rounding, and behind
	}{
		{"#,##0.00;(#)", api.Exact, minus("12345", -1), minus("12345", -1), of("1", -2), of("0", 0), true, true},
		{"0.0%", api.HalfEven, of("1234", -4), of("123", -3), of("1", -3), of("4", -4), false, true},
		{"##0.##E0", api.HalfEven, of("12345", 0), of("123", 2), of("1", 2), of("45", 0), false, true},
		{"@##", api.HalfEven, of("12345", -7), of("123", -5), of("1", -5), of("45", -7), false, true},
		{"0.25", api.HalfUp, of("4", -1), of("5", -1), of("25", -2), of("1", -1), false, true},
		{"#.##", api.HalfUp, of("0", 0), of("0", 0), of("1", -2), of("0", 0), true, true},
		{"0", api.HalfEven, of("25", -1), of("2", 0), of("1", 0), of("5", -1), false, true},
	} {
		holdStep(t, c.text, c.d, c.step)
		p := compiled(t, c.text)
		got, e := shape.Round(p, c.m, c.d)
		if got != c.rounded || e != api.OK {
			t.Errorf("Round(%q, %d, %v) = %v, %d", c.text, c.m, c.d, got, e)
		}
		holdOff(t, c.d, got, c.off)
		holdIs(t, c.text, c.d, c.before)
		holdIs(t, c.text, got, c.written)
	}
}

// TestStepFixed: one step for all decimals, of patterns that count from the point on.
func TestStepFixed(t *testing.T) {
	forty := rep("0", 40)
	for _, c := range []struct {
		text string
		want api.Dec
	}{
		{"0", of("1", 0)}, {"#", of("1", 0)}, {"000", of("1", 0)}, {"0.0", of("1", -1)}, {"#,##0.00#", of("1", -3)}, {".##", of("1", -2)}, {"0." + rep("#", 40), of("1", -40)}, {"0.00;(0)", of("1", -2)}, {"*x#,##0.0", of("1", -1)},
		{"0%", of("1", -2)}, {"%0.0", of("1", -3)}, {"0\u2030", of("1", -3)}, {"0.0\u2030", of("1", -4)}, {"0;0%", of("1", -2)}, {"0;%0", of("1", -2)}, {"0.0;\u20300", of("1", -4)}, {"0%%;0%", of("1", -2)}, {"0'%'", of("1", 0)}, {"0'\u2030'", of("1", 0)}, {"0*%", of("1", 0)}, {"0." + forty + "\u2030", of("1", -43)},
		{"5", of("5", 0)}, {"0.25", of("25", -2)}, {"0.05", of("5", -2)}, {"#50", of("5", 1)}, {"1000", of("1", 3)}, {"0.50", of("5", -1)}, {"0.500", of("5", -1)}, {"00.10", of("1", -1)}, {"1.00", of("1", 0)}, {"3.25", of("325", -2)}, {"10.50", of("105", -1)}, {"#,#10", of("1", 1)}, {"1", of("1", 0)}, {"123456789.987654321", of("123456789987654321", -9)},
		{"#50%", of("5", -1)}, {"0.25%", of("25", -4)}, {"1000%", of("1", 1)}, {"100\u2030", of("1", -1)}, {"3\u2030", of("3", -3)}, {"0.07;0\u2030", of("7", -5)}, {"10.0%", of("1", -1)},
		{rep("9", 40), of(rep("9", 40), 0)}, {"1" + rep("0", 39), of("1", 39)}, {rep("7", 20) + "." + rep("7", 20) + "\u2030", of(rep("7", 40), -23)}, {"0." + rep("0", 39) + "3%", of("3", -42)},
	} {
		for _, d := range []api.Dec{of("0", 0), minus("0", 0), of("000", 1000), of("0", -1000), of("1", 0), minus("12345", -2), of("0012300", -2), of(nines, 0), of("1", -300), minus("1", 299), of(nines+nines, -300), of("1"+rep("0", 999), -1000), of(rep("0", 999)+"1", 0)} {
			holdStep(t, c.text, d, c.want)
		}
	}
}

// TestStepCounted: the step hangs on the decimal, of patterns that count digits.
func TestStepCounted(t *testing.T) {
	for _, c := range []struct {
		text string
		d    api.Dec
		want int // the step is ten to this power
	}{
		{"@", of("1", 0), 0}, {"@", of("9", 0), 0}, {"@", of("10", 0), 1}, {"@", of("99", -1), 0}, {"@", of("99", -2), -1}, {"@@", of("12345", -2), 1}, {"@@", minus("12345", -2), 1}, {"@@@@", of("12345", 0), 1}, {"@##", of("12345", -7), -5}, {"@##", of("1", -3), -5}, {"###@@#", of("1", 0), -2}, {"@,@#", of("7", 3), 1},
		// How the digits stand counts for nothing.
		{"@@", of("000120", 2), 3}, {"@@", of("12", 3), 3}, {"@@", of("1200000", -2), 3}, {"@@", of("0005", -2), -3}, {"@", of("1"+rep("0", 999), -1000), -1}, {"0.0E0", of("00990", -1), 0}, {"##0.0E0", of("0100", 0), 1},
		// The first digit of 0 is that at place 0, of the value that is written.
		{"@", of("0", 0), 0}, {"@@@", of("0", 0), -2}, {"@@@", minus("000", 7), -2}, {"@##", of("0", 1000), -2}, {"@@@", of("0", -1000), -2}, {"@@@%", of("0", 0), -4}, {"@\u2030", minus("0", 9), -3}, {"0E0", of("0", 0), 0}, {"00.00E0", of("0", 5), -3}, {"##0.##E0", of("0", 0), -2}, {".##E0", of("0", 0), -1}, {"#E0", of("0", 0), 0}, {"0.0E0%", of("0", 0), -3}, {"##0.00E0\u2030", minus("0", 3), -5},
		// Of others percent and permille change nothing: the last digit that counts stays that.
		{"@@%", of("12345", -2), 1}, {"@@\u2030", of("12345", -2), 1}, {"@;@%", of("5", 0), 0}, {"0.0E0%", of("12345", -2), 1}, {"\u20300E0", of("9", -4), -4}, {"##0.##E0%", of("12345", 0), 2},
		{"0E0", of("95", 0), 1}, {"0.0E0", of("12345", 0), 3}, {"0.###E0", minus("12345", 0), 1}, {"00.0E0", of("12345", 0), 2}, {"000E0", of("1", 0), -2}, {"0.0#E+00", of("5", -9), -11},
		{"#E0", of("95", 0), 1}, {"#.#E0", of("95", 0), 1}, {"#.##E0", of("95", 0), 0}, {".##E0", of("95", 0), 0}, {".00E0", of("5", -3), -4},
		{"##0.##E0", of("12345", 0), 2}, {"##0.##E0", of("99999", 0), 2}, {"##0.##E0", of("1", 5), 3}, {"##0E0", of("12345", 0), 4}, {"#0.#E0", of("123", 0), 1}, {"##00.##E0", of("123456", 0), 2}, {"##E0", of("123", 0), 2}, {"###.#E0", of("123", 0), 1}, {"##.00E0", of("123", 0), 0},
		{"@E0", of("123", 0), 2}, {"@@#E0", of("123456", 0), 3}, {"@###E0", of("1", -1), -4},
		{"@", of(nines, 0), 299}, {"@", of("1", 299), 299}, {"@", minus("1", -300), -300}, {rep("@", 40), of("1", -300), -339}, {rep("@", 40) + "\u2030", of("1", -300), -339}, {rep("@", 40) + "\u2030", of("0", 0), -42}, {"@" + rep("#", 39), of(nines, 0), 260}, {"@", of(nines+nines, -300), 299}, {"@", of("0"+nines+rep("0", 300), -300), 299},
		{rep("0", 40) + "." + rep("0", 40) + "E0", of("1", -300), -379}, {rep("0", 40) + "." + rep("0", 40) + "E0%", of("1", 299), 220}, {rep("#", 39) + "0." + rep("#", 40) + "E0", of("1", 0), -40}, {rep("#", 40) + "E0", of("7", 299), 299},
	} {
		holdStep(t, c.text, c.d, of("1", c.want))
	}
}

// TestOff: with both signs, decimals that are as much, and those that are far from one another.
func TestOff(t *testing.T) {
	for _, c := range []struct{ a, b, want api.Dec }{
		{of("1", 0), of("25", -2), of("75", -2)}, {of("1", 0), minus("25", -2), of("125", -2)}, {minus("1", 0), minus("25", -2), of("75", -2)}, {minus("12345", -2), of("1", 0), of("12445", -2)}, {of("5", 0), minus("5", 0), of("1", 1)}, {of("12", 3), of("2", 3), of("1", 4)}, {of("1", 0), of("2", 0), of("1", 0)}, {minus("3", 0), minus("1", 0), of("2", 0)},
		{of("1", 0), of("1", 0), of("0", 0)}, {minus("1", 0), minus("1", 0), of("0", 0)}, {of("0120", 2), of("12", 3), of("0", 0)}, {minus("12", 3), minus("12000", 0), of("0", 0)}, {of("10", -301), of("1", -300), of("0", 0)},
		{of("0", 0), of("0", 0), of("0", 0)}, {minus("0", 0), of("0", 0), of("0", 0)}, {minus("0", 0), minus("0", 0), of("0", 0)}, {of("000", 1000), minus("0", -1000), of("0", 0)}, {minus("0", 1000), minus("00", 7), of("0", 0)},
		{of("0", 0), of("0120", 2), of("12", 3)}, {minus("0", 5), minus("0120", 2), of("12", 3)}, {of("0", 1000), minus("1", -300), of("1", -300)}, {of(rep("0", 1000), -1000), of("1", 299), of("1", 299)},
		{of(nines, 0), of("1", 0), of(rep("9", 299)+"8", 0)}, {of(nines, 0), minus(nines, 0), of("1"+rep("9", 299)+"8", 0)}, {of(nines, 0), minus("1", 0), of("1", 300)}, {of("1", 299), of("1", -300), of(rep("9", 599), -300)}, {minus("1", 299), of("1", -300), of("1"+rep("0", 598)+"1", -300)}, {of("1", -300), minus("1", -300), of("2", -300)}, {of("1"+rep("0", 999), -1000), of("1", -1), of("0", 0)},
		{of("1000000000", 0), of("1", 0), of("999999999", 0)}, {of("1000000000000000000", -9), of("1", -9), of("999999999999999999", -9)},
	} {
		holdOff(t, c.a, c.b, c.want)
	}
}

// TestIs: what is a multiple of the step, and what is just beside it.
func TestIs(t *testing.T) {
	for _, c := range []struct {
		text string
		yes  []api.Dec
		no   []api.Dec
	}{
		{"0", []api.Dec{of("5", 0), minus("5", 3), of("50", -1)}, []api.Dec{of("5", -1), minus("15", -1), of("1", -300)}},
		{"#,##0.00", []api.Dec{of("123", -2), of("12", -1), of("1", 299), of(nines, 0), minus("5", 7)}, []api.Dec{of("1234", -3), of("1", -3), of(nines+"1", -3), minus("12300001", -7)}},
		{"0.00;(0)", []api.Dec{minus("123", -2)}, []api.Dec{minus("1231", -3)}},
		{".##", []api.Dec{of("5", -2)}, []api.Dec{of("5", -3)}},
		{"0%", []api.Dec{of("5", -2), of("1", 0), minus("12", -2)}, []api.Dec{of("5", -3), of("121", -3)}},
		{"0.0\u2030", []api.Dec{of("5", -4), minus("1", 0)}, []api.Dec{of("5", -5)}},
		{"0;0%", []api.Dec{of("5", -2), minus("5", -2)}, []api.Dec{of("5", -3)}},
		{"0.25", []api.Dec{of("25", -2), of("5", -1), of("75", -2), minus("1", 0), of("1", 299)}, []api.Dec{of("2", -1), of("1", -1), minus("26", -2), of("125", -3)}},
		{"#50", []api.Dec{of("5", 1), of("1", 2), minus("15", 1)}, []api.Dec{of("5", 0), of("25", 0), of("51", 0), of("501", -1)}},
		{"7", []api.Dec{of("14", 0), of("7", 299), of(rep("7", 300), 0)}, []api.Dec{of("15", 0), of("1", 299), of("7", -1), of("35", -1)}},
		{"0.07%", []api.Dec{of("7", -4), of("49", -4)}, []api.Dec{of("7", -5), of("1", 0)}},
		{rep("9", 40), []api.Dec{of(rep("9", 40), 0), of(rep("9", 80), 0), minus(rep("9", 40), 260)}, []api.Dec{of(rep("9", 39), 0), of("1", 40), of("9", 0)}},
		{"@", []api.Dec{of("5", 0), of("5", 299), minus("5", -300)}, []api.Dec{of("55", 0), of("101", 0), of(nines, 0)}},
		{"@@@", []api.Dec{of("123", 7), of("12", 0), minus("102", -300)}, []api.Dec{of("1234", 0), of("1001", 0)}},
		{"@#%", []api.Dec{of("12", -300), of("1", 299)}, []api.Dec{of("123", -300)}},
		{"0E0", []api.Dec{of("9", -300)}, []api.Dec{of("99", -300)}},
		{"0.000E0", []api.Dec{of("1234", 5), minus("1", 0)}, []api.Dec{of("12345", 0)}},
		{"##0.##E0", []api.Dec{of("123", 0), of("999", 297)}, []api.Dec{of("1234", 0), of("1001", -3)}},
		{".##E0\u2030", []api.Dec{of("12", 0)}, []api.Dec{of("123", 0)}},
		{rep("0", 40) + "." + rep("0", 40) + "E0", []api.Dec{of(rep("9", 80), -300)}, []api.Dec{of(rep("9", 81), -300)}},
	} {
		for _, d := range c.yes {
			holdIs(t, c.text, d, true)
			// It is the value that counts, not how the digits stand.
			holdIs(t, c.text, api.Dec{Neg: d.Neg, Digits: "00" + d.Digits + "000", Exp: d.Exp - 3}, true)
		}
		for _, d := range c.no {
			holdIs(t, c.text, d, false)
			holdIs(t, c.text, api.Dec{Neg: d.Neg, Digits: "00" + d.Digits + "000", Exp: d.Exp - 3}, false)
		}
		for _, d := range []api.Dec{of("0", 0), minus("0", 0), of("000", 1000), minus("00", -1000)} {
			holdIs(t, c.text, d, true)
		}
	}
}

// holdAll holds all that the chapter says of p and a d in range against its words.
func holdAll(t *testing.T, p api.Pattern, d api.Dec) {
	t.Helper()
	step, want := Step(p, d), stepOf(p, d)
	if value(step).Cmp(want) != 0 || !asItShould(step) || step.Neg {
		t.Errorf("Step(%q, %v) = %v", print.Print(p), d, step)
	}
	fits := new(big.Rat).Quo(value(d), want).IsInt()
	exact, e := shape.Round(p, api.Exact, d)
	if Is(p, d) != fits || fits != (e == api.OK) || fits && exact != dec.Norm(d) {
		t.Errorf("Is(%q, %v) = %v, Round by Exact = %v, %d", print.Print(p), d, Is(p, d), exact, e)
	}
	for _, m := range rounding {
		rounded, e := shape.Round(p, m, d)
		if e == api.OK {
			holdRounded(t, p, m, d, rounded)
		} else if e != api.ErrRange {
			t.Errorf("Round(%q, %d, %v): %d", print.Print(p), m, d, e)
		}
	}
}

// holdRounded holds how far off rounding by way m is, and that what is rounded is what Exact answers.
func holdRounded(t *testing.T, p api.Pattern, m int, d, rounded api.Dec) {
	t.Helper()
	off, step := Off(d, rounded), Step(p, d)
	apart := new(big.Rat).Sub(value(d), value(rounded))
	if value(off).Cmp(apart.Abs(apart)) != 0 || !asItShould(off) || off.Neg || off != Off(rounded, d) {
		t.Errorf("Off(%v, %v) = %v", d, rounded, off)
	}
	if dec.Cmp(off, step) >= 0 || m >= api.HalfEven && dec.Cmp(arith.Add(off, off), step) > 0 {
		t.Errorf("Round(%q, %d, %v) = %v, %v off, the step is %v", print.Print(p), m, d, rounded, off, step)
	}
	if !Is(p, rounded) || Is(p, d) != dec.Zero(off) {
		t.Errorf("Is(%q, %v) = %v, Is of %v = %v, %v off", print.Print(p), rounded, Is(p, rounded), d, Is(p, d), off)
	}
}

// samples are decimals of all sorts, with both signs.
func samples() []api.Dec {
	var list []api.Dec
	for _, digits := range []string{"0", "000", "1", "5", "7", "10", "25", "35", "049", "995", "9995", "12345", "99999", "1500", "4999999999", "5000000001", "123456789012345678901234567890"} {
		for _, exp := range []int{-31, -12, -6, -5, -4, -3, -2, -1, 0, 1, 2, 3, 4, 7} {
			list = append(list, of(digits, exp), minus(digits, exp))
		}
	}
	return list
}

// texts calls do with all rows of up to n parts.
func texts(parts []string, n int, do func(string)) {
	var extend func(s string, left int)
	extend = func(s string, left int) {
		do(s)
		for _, part := range parts {
			if left > 0 {
				extend(s+part, left-1)
			}
		}
	}
	extend("", n)
}

// TestAll: all short patterns of several sets of parts, each with some decimals.
func TestAll(t *testing.T) {
	list := samples()
	seen := map[string]bool{}
	next := 0
	for _, set := range []struct {
		n     int
		parts []string
	}{
		{6, []string{"#", "0", "5", ".", "@"}},
		{6, []string{"#", "0", ".", "E0"}},
		{5, []string{"#", "@", "E0", "%", ","}},
		{5, []string{"#", "0", ".", "\u2030", "E0"}},
		{4, []string{"#", "0", "*x", ";", "a", "%", "2.5"}},
	} {
		texts(set.parts, set.n, func(text string) {
			p, fault := pattern.Compile(text)
			key := print.Print(p)
			if fault.E != api.OK || seen[key] {
				return
			}
			seen[key] = true
			for range 8 {
				holdAll(t, p, list[next%len(list)])
				next += 7
			}
		})
	}
	if len(seen) < 1500 {
		t.Errorf("only %d patterns", len(seen))
	}
}

// TestSamples: some patterns of each sort with all decimals.
func TestSamples(t *testing.T) {
	for _, text := range []string{"0", "#,##0.00", ".0#", "0.0%", "#.#\u2030", "@", "@@#", "@@@%", "0.25", "#50", "3", "0.7%", "0E0", "0.0#E0", "00.#E0", "#.#E0", "##0.##E0", "##00.#E0", "##E0", "@@#E0", "##0.0E0%", "0E0\u2030", "*x#,##0.0;(0)"} {
		p := compiled(t, text)
		for _, d := range samples() {
			holdAll(t, p, d)
		}
	}
}

// TestRandom: long decimals, up to both ends of the range, by patterns with many digits.
func TestRandom(t *testing.T) {
	source := rand.New(rand.NewSource(24))
	some := func(s string, most int) string { return rep(s, source.Intn(most+1)) }
	done := 0
	for range 2000 {
		text := some("#", 5) + some("0", 9)
		switch source.Intn(4) {
		case 0:
			text = some("#", 3) + "@" + some("@", 12) + some("#", 12)
		case 1:
			text += "0." + some("0", 20) + some("#", 20)
		case 2:
			text = some("#", 40-len(text)) + text + "." + some("0", 12) + "#E" + some("0", 3) + "0"
		case 3:
			text += some("05", 9) + "." + some("0", 3) + some("7", 3) + "5"
		}
		text += []string{"", "%", "\u2030"}[source.Intn(3)]
		p, fault := pattern.Compile(text)
		if fault.E != api.OK {
			continue
		}
		for range 3 {
			digits := some("0", 2) + string(rune('0'+source.Intn(10))) + some("9", []int{2, 30, 300, 600}[source.Intn(4)]) + some("0", 3) + string(rune('0'+source.Intn(10))) + some("0", 9)
			d := api.Dec{Neg: source.Intn(2) == 0, Digits: digits, Exp: source.Intn(700) - 400}
			if source.Intn(2) == 0 {
				d.Exp = source.Intn(60) - 30 - len(digits)/2
			}
			if dec.Ranged(d) {
				holdAll(t, p, d)
				done++
			}
		}
	}
	if done < 2000 {
		t.Errorf("only %d are in range", done)
	}
}

// share tells whether two texts have a byte of memory in common.
func share(a, b string) bool {
	if a == "" || b == "" {
		return false
	}
	from, at := uintptr(unsafe.Pointer(unsafe.StringData(a))), uintptr(unsafe.Pointer(unsafe.StringData(b)))
	return from < at+uintptr(len(b)) && at < from+uintptr(len(a))
}

// TestMemory: what is handed in stays, spare room of lists too, which counts for nothing; what is answered shares nothing with it.
func TestMemory(t *testing.T) {
	for _, text := range []string{"a#,##0.00b;(0)", "*x##0.0%", "-@@#", "0.25;x0", "123456789.123456789", "##0.#E+00"} {
		p, before := compiled(t, text), compiled(t, text)
		p.Inc = strings.Clone(p.Inc)
		lists := []*[]api.Item{&p.Prefix, &p.Suffix, &p.NegPrefix, &p.NegSuffix}
		for _, items := range lists {
			room := append(slices.Clone(*items), api.Item{Kind: api.Percent}, api.Item{Kind: 99})
			*items = room[:len(room)-2]
		}
		for _, d := range append(samples()[:90], of("123456789123456789", -9)) {
			d.Digits = strings.Clone(d.Digits)
			step, off := Step(p, d), Off(d, of("0", 0))
			if step != Step(before, d) || Is(p, d) != Is(before, d) {
				t.Errorf("with spare room Step(%q, %v) = %v, Is = %v", text, d, step, Is(p, d))
			}
			if share(step.Digits, p.Inc) || share(step.Digits, d.Digits) || share(off.Digits, d.Digits) {
				t.Errorf("what is answered of %q and %v shares memory with it", text, d)
			}
		}
		for i, items := range lists {
			if room := (*items)[:len(*items)+2]; !slices.Equal(room[len(*items):], []api.Item{{Kind: api.Percent}, {Kind: 99}}) {
				t.Errorf("%q: spare room is changed: %v", text, room)
			}
			was := *[]*[]api.Item{&before.Prefix, &before.Suffix, &before.NegPrefix, &before.NegSuffix}[i]
			if !slices.Equal(*items, was) {
				t.Errorf("%q is changed: %v, was %v", text, *items, was)
			}
			*items = was
		}
		if !reflect.DeepEqual(p, before) {
			t.Errorf("%q is changed: %+v, was %+v", text, p, before)
		}
	}
}

// TestOthers: nothing is promised of other arguments than the chapter's, but that the calls end, without a panic.
func TestOthers(t *testing.T) {
	ends := []int{math.MinInt, math.MinInt + 1, -70000, -1, 0, 41, 70000, math.MaxInt32, math.MaxInt - 1, math.MaxInt}
	decs := []api.Dec{{}, of("x", 0), of("1.5", 0), of("\xff", 3), of("1", 0), of("125", -2), of(nines, 0), of("1", -301), of("1", 300), of("1", 1000), of("1", math.MaxInt), of("1", math.MinInt), of("0", math.MinInt), minus("0", math.MaxInt), of(rep("9", 5000), 0), of(rep("9", 5000), math.MinInt), minus("5", -1)}
	all := func(p api.Pattern) {
		for _, d := range decs {
			if step, is := Step(p, d), Is(p, d); step != Step(p, d) || is != Is(p, d) {
				t.Errorf("of %+v and %v the same calls have other answers", p, d)
			}
		}
	}
	for _, a := range decs {
		for _, b := range decs {
			Off(a, b)
		}
	}
	all(api.Pattern{})
	for _, text := range []string{"0", "0.00", "@@#", "0.25", "##0.##E0", "@E0", "*x0%", "#.#E0"} {
		all(compiled(t, text))
		for i := range 10 {
			for _, n := range ends {
				p := compiled(t, text)
				*[]*int{&p.MinInt, &p.MaxInt, &p.MinFrac, &p.MaxFrac, &p.MinSig, &p.MaxSig, &p.Primary, &p.MinExp, &p.PadAt, &p.Width}[i] = n
				all(p)
			}
		}
		for _, step := range []string{"x", "0", "-5", "\xff", rep("5", 41), rep("5", 70000)} {
			p := compiled(t, text)
			p.Inc = step
			all(p)
		}
	}
}
