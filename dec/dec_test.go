package dec

import (
	"math"
	"math/big"
	"slices"
	"strings"
	"testing"

	"figurehead/api"
	"figurehead/nat"
)

const (
	mostDigits = 4 * api.MaxDigits // of which the chapter speaks
	mostExp    = 4 * api.MaxExp
)

// of makes a decimal that is not below 0.
func of(digits string, exp int) api.Dec {
	return api.Dec{Digits: digits, Exp: exp}
}

func minus(d api.Dec) api.Dec {
	d.Neg = !d.Neg
	return d
}

func rep(s string, n int) string {
	return strings.Repeat(s, n)
}

// samples are decimals of all sorts, with both signs: 0 in many forms, noughts ahead, within and at the end, the ends of limbs, and of all that the chapter speaks of.
func samples() []api.Dec {
	var list []api.Dec
	texts := []string{
		"0", "00", "0000000000000", "1", "2", "9", "10", "100", "01", "0010", "12", "120", "0120", "102", "10203040", "0099900",
		"999999999", "1000000000", "1000000001", "0999999999", "999999999000000000", "123456789012345678901234567890", "1" + rep("0", 40) + "1", rep("9", 50) + rep("0", 30),
	}
	for _, digits := range texts {
		for _, exp := range []int{-45, -30, -10, -3, -2, -1, 0, 1, 2, 7, 30} {
			list = append(list, of(digits, exp))
		}
	}
	for _, digits := range []string{"0", "1", "10", "99", rep("0", mostDigits), rep("9", mostDigits), rep("0", mostDigits-1) + "1", "1" + rep("0", mostDigits-1), "1" + rep("0", mostDigits-2) + "1"} {
		for _, exp := range []int{-mostExp, -mostExp + 1, -api.MaxExp - 1, -api.MaxExp, -api.MaxPlace, 0, api.MaxPlace, api.MaxExp, api.MaxExp + 1, mostExp} {
			list = append(list, of(digits, exp))
		}
	}
	for _, d := range list {
		list = append(list, minus(d))
	}
	return list
}

// scaled is d's value times ten to the power -low, as the library's own; low is at most d's Exp.
func scaled(d api.Dec, low int) *big.Int {
	value, _ := new(big.Int).SetString(d.Digits, 10)
	value.Mul(value, new(big.Int).Exp(big.NewInt(10), big.NewInt(int64(d.Exp-low)), nil))
	if d.Neg {
		value.Neg(value)
	}
	return value
}

func TestGood(t *testing.T) {
	good := []api.Dec{
		of("0", 0), of("00", -1000), of("1", 1000), of("0", -1000), of("0123456789", 5), minus(of("0", 0)), minus(of("12", -7)),
		of(rep("1", 1000), 0), of(rep("0", 1000), 1000), of(rep("9", 999), -999), of("10", 999),
	}
	bad := []api.Dec{
		{}, of("", 5), minus(of("", 0)), of("1", 1001), of("1", -1001), of("0", 1001), of("0", -1001), of("1", math.MaxInt), of("1", math.MinInt),
		of(rep("1", 1001), 0), of(rep("0", 1001), 0), of("0"+rep("1", 1000), 0), of(rep("1", 1000)+"0", -5), of(rep("0", 5000), 0),
		of("1x", 0), of("x1", 0), of("-1", 0), of("+1", 0), of("1.5", 0), of("1,000", 0), of("1e3", 0), of(" 1", 0), of("1 ", 0), of("1\n", 0),
		of("\x00", 0), of("/", 0), of(":", 0), of("\xff", 0), of("1\xe2\x82", 0), of("\u0663", 0), of("\uff11", 0), of(rep("1", 999)+"a", 0),
	}
	for _, d := range good {
		if !Good(d) {
			t.Errorf("Good(%v): no", d)
		}
	}
	for _, d := range bad {
		if Good(d) {
			t.Errorf("Good(%v): yes", d)
		}
	}
	for b := range 256 {
		isDigit := b >= '0' && b <= '9'
		for _, digits := range []string{string([]byte{byte(b)}), string([]byte{'1', byte(b)}), string([]byte{byte(b), '1'})} {
			if Good(of(digits, 0)) != isDigit {
				t.Errorf("Good of %q", digits)
			}
		}
	}
}

func TestCoef(t *testing.T) {
	cases := []struct {
		d    api.Dec
		want []uint32
	}{
		{of("0", 0), nil}, {of("000", 7), nil}, {minus(of("0", 0)), nil}, {of("0120", 2), []uint32{120}}, {minus(of("7", -9)), []uint32{7}},
		{of("999999999", 4000), []uint32{999999999}}, {of("1000000000", 0), []uint32{0, 1}}, {of("00123456789012", -3), []uint32{456789012, 123}},
	}
	for _, c := range cases {
		if got := Coef(c.d); !slices.Equal(got, c.want) {
			t.Errorf("Coef(%v) = %v, want %v", c.d, got, c.want)
		}
	}
	for _, d := range samples() {
		value := new(big.Int)
		coef := Coef(d)
		for _, limb := range slices.Backward(coef) {
			value.Mul(value, big.NewInt(api.Base))
			value.Add(value, big.NewInt(int64(limb)))
		}
		if !nat.Good(coef) || len(nat.Trim(coef)) != len(coef) || value.CmpAbs(scaled(of(d.Digits, 0), 0)) != 0 {
			t.Errorf("Coef(%v) = %v", d, coef)
		}
	}
}

// TestCoefMemory: one answer written over leaves the next one, and d, as they were.
func TestCoefMemory(t *testing.T) {
	d := of("123456789012", 5)
	want := []uint32{456789012, 123}
	one, other := Coef(d), Coef(d)
	one = one[:cap(one)]
	for i := range one {
		one[i] = 55
	}
	if !slices.Equal(other, want) || !slices.Equal(Coef(d), want) || d != of("123456789012", 5) {
		t.Errorf("%v, %v, %v", other, Coef(d), d)
	}
}

func TestNorm(t *testing.T) {
	cases := []struct{ d, want api.Dec }{
		{of("0120", 2), of("12", 3)}, {of("0", 0), of("0", 0)}, {of("000", 9), of("0", 0)}, {of("0", -4000), of("0", 0)}, {of("0", 4000), of("0", 0)},
		{minus(of("000", 9)), minus(of("0", 0))}, {minus(of("0", -1)), minus(of("0", 0))},
		{of("1", 0), of("1", 0)}, {of("10", 0), of("1", 1)}, {of("01", 0), of("1", 0)}, {of("10", -1), of("1", 0)}, {of("100", -1), of("1", 1)},
		{of("102", -5), of("102", -5)}, {of("0010500", -4), of("105", -2)}, {minus(of("0010500", -4)), minus(of("105", -2))},
		{of("1000000000", 0), of("1", 9)}, {of("999999999000000000", 1), of("999999999", 10)}, {of("10000000010", 0), of("1000000001", 1)},
		{of(rep("0", mostDigits), 0), of("0", 0)}, {of(rep("0", mostDigits-1)+"7", -4000), of("7", -4000)},
		{of("7"+rep("0", mostDigits-1), 4000), of("7", 7999)}, {of(rep("9", mostDigits), -4000), of(rep("9", mostDigits), -4000)},
	}
	for _, c := range cases {
		if got := Norm(c.d); got != c.want {
			t.Errorf("Norm(%v) = %v, want %v", c.d, got, c.want)
		}
	}
}

// TestNormAsItShouldBe: Norm's answer is of the right form, of the same value and sign, and its own Norm.
func TestNormAsItShouldBe(t *testing.T) {
	for _, d := range samples() {
		n := Norm(d)
		if n.Neg != d.Neg || Norm(n) != n {
			t.Errorf("Norm(%v) = %v", d, n)
		}
		if n.Digits == "0" {
			if n.Exp != 0 || strings.Trim(d.Digits, "0") != "" {
				t.Errorf("Norm(%v) = %v", d, n)
			}
			continue
		}
		if n.Digits == "" || n.Digits[0] == '0' || strings.HasSuffix(n.Digits, "0") || n.Exp < d.Exp || scaled(n, d.Exp).Cmp(scaled(d, d.Exp)) != 0 {
			t.Errorf("Norm(%v) = %v", d, n)
		}
	}
}

func TestZero(t *testing.T) {
	for _, d := range []api.Dec{of("0", 0), of("00", 5), of("0", -4000), of("0", 4000), of(rep("0", mostDigits), 1), minus(of("0", 0)), minus(of("000", -3))} {
		if !Zero(d) {
			t.Errorf("Zero(%v): no", d)
		}
	}
	for _, d := range []api.Dec{of("1", 0), of("1", -4000), of("10", 0), of("01", 5), minus(of("1", 0)), of(rep("0", mostDigits-1)+"1", -4000), of("1"+rep("0", mostDigits-1), 0), of("1000000000", 0)} {
		if Zero(d) {
			t.Errorf("Zero(%v): yes", d)
		}
	}
}

func TestTop(t *testing.T) {
	cases := []struct {
		d    api.Dec
		want int
	}{
		{of("0", 0), 0}, {of("0", 7), 0}, {of("000", -7), 0}, {minus(of("0", 3)), 0}, {of(rep("0", mostDigits), 4000), 0},
		{of("1", 0), 0}, {of("9", 5), 5}, {of("1", -5), -5}, {of("12", 0), 1}, {of("012", 0), 1}, {of("00120", -2), 0}, {of("0120", 2), 4}, {of("1205", -2), 1}, {minus(of("1205", -2)), 1},
		{of("999999999", 0), 8}, {of("1000000000", 0), 9}, {of("1", -4000), -4000}, {of("1", 4000), 4000}, {of("1"+rep("0", mostDigits-1), 4000), 7999}, {of(rep("0", mostDigits-1)+"1", -4000), -4000},
	}
	for _, c := range cases {
		if got := Top(c.d); got != c.want {
			t.Errorf("Top(%v) = %d, want %d", c.d, got, c.want)
		}
	}
}

func TestDigit(t *testing.T) {
	cases := []struct {
		d     api.Dec
		place int
		want  int
	}{
		{of("1205", -2), 2, 0}, {of("1205", -2), 1, 1}, {of("1205", -2), 0, 2}, {of("1205", -2), -1, 0}, {of("1205", -2), -2, 5}, {of("1205", -2), -3, 0},
		{minus(of("1205", -2)), -2, 5}, {of("007", 3), 3, 7}, {of("007", 3), 4, 0}, {of("007", 3), 5, 0}, {of("007", 3), 2, 0}, {of("700", 3), 5, 7}, {of("700", 3), 4, 0}, {of("700", 3), 3, 0},
		{of("0", 0), 0, 0}, {of("0", 0), 1, 0}, {of("0", 0), -1, 0}, {of("000", 5), 5, 0}, {of("000", 5), 0, 0},
		{of("98765432101234", 0), 13, 9}, {of("98765432101234", 0), 9, 5}, {of("98765432101234", 0), 0, 4},
		{of("9", 4000), 4000, 9}, {of("9", -4000), -4000, 9}, {of("9", 4000), 0, 0}, {of("9", -4000), 0, 0},
	}
	for _, c := range cases {
		if got := Digit(c.d, c.place); got != c.want {
			t.Errorf("Digit(%v, %d) = %d, want %d", c.d, c.place, got, c.want)
		}
	}
}

// TestDigitAnyPlace: far off, at all ends of the numbers too, stands 0.
func TestDigitAnyPlace(t *testing.T) {
	places := []int{math.MinInt, math.MinInt + 1, math.MinInt + 4000, math.MinInt32, -9000, 9000, math.MaxInt32, math.MaxInt - 4000, math.MaxInt - 1, math.MaxInt}
	for _, exp := range []int{-4000, -1, 0, 1, 4000} {
		for _, digits := range []string{"0", "5", "55555", rep("5", mostDigits)} {
			for _, place := range places {
				if got := Digit(of(digits, exp), place); got != 0 {
					t.Errorf("Digit of %d digits by %d, at %d: %d", len(digits), exp, place, got)
				}
			}
		}
	}
}

// TestDigitsOfAll holds Top and the digits at all places within some samples, and about them, against their texts.
func TestDigitsOfAll(t *testing.T) {
	for _, d := range samples() {
		if len(d.Digits) > 100 {
			continue
		}
		top := 0
		for place := d.Exp - 3; place < d.Exp+len(d.Digits)+3; place++ {
			want := 0
			if i := len(d.Digits) - 1 - (place - d.Exp); i >= 0 && i < len(d.Digits) {
				want = int(d.Digits[i] - '0')
			}
			if want != 0 {
				top = place
			}
			if got := Digit(d, place); got != want {
				t.Errorf("Digit(%v, %d) = %d, want %d", d, place, got, want)
			}
		}
		if got := Top(d); got != top {
			t.Errorf("Top(%v) = %d, want %d", d, got, top)
		}
	}
}

func TestCmp(t *testing.T) {
	cases := []struct {
		a, b api.Dec
		want int
	}{
		{of("0", 0), of("0", 0), 0}, {minus(of("0", 0)), of("0", 5), 0}, {of("000", -4000), minus(of("0", 4000)), 0}, {minus(of("0", 1)), minus(of("00", 2)), 0},
		{of("1", -4000), of("0", 4000), 1}, {minus(of("1", -4000)), of("0", 0), -1}, {minus(of("1", -4000)), minus(of("0", 0)), -1}, {of("1", -4000), minus(of("0", 0)), 1},
		{of("1", 0), of("2", 0), -1}, {minus(of("1", 0)), minus(of("2", 0)), 1}, {of("1", 0), minus(of("2", 0)), 1}, {minus(of("1", 0)), of("2", 0), -1},
		{of("1", 0), minus(of("1", 0)), 1}, {minus(of("12", 3)), minus(of("12000", 0)), 0},
		{of("1205", -2), of("12050", -3), 0}, {of("0120", 2), of("12", 3), 0}, {of("12", 0), of("121", -1), -1}, {of("12", 0), of("1199999", -5), 1}, {of("12", 0), of("12"+rep("0", 50)+"1", -51), -1},
		{of("9", 0), of("10", 0), -1}, {of("99", -1), of("1", 1), -1}, {of("9", 1), of("10", 0), 1}, {of("5", -1), of("49", -2), 1}, {of("5", 0), of("1", 1), -1},
		{of("1", 4000), of(rep("9", mostDigits), 0), 1}, {of("1", 4000), of("1"+rep("0", mostDigits-1), 1), 0}, {of("1", 4000), of(rep("9", mostDigits), -4000), 1}, {of(rep("9", mostDigits), -4000), of("1", 0), -1},
		{minus(of("1", 4000)), minus(of("1", -4000)), -1}, {of("1", 4000), of("1", -4000), 1},
	}
	for _, c := range cases {
		if got := Cmp(c.a, c.b); got != c.want {
			t.Errorf("Cmp(%v, %v) = %d, want %d", c.a, c.b, got, c.want)
		}
		if got := Cmp(c.b, c.a); got != -c.want {
			t.Errorf("Cmp(%v, %v) = %d, want %d", c.b, c.a, got, -c.want)
		}
	}
}

// TestCmpAgainstLibrary holds the order of samples against math/big.
func TestCmpAgainstLibrary(t *testing.T) {
	list := samples()
	values := make([]*big.Int, len(list))
	for i, d := range list {
		values[i] = scaled(d, -mostExp)
	}
	for i, a := range list {
		for j, b := range list {
			// The long ones take their time: each is held against some alone.
			if len(b.Digits) > 100 && (i+j)%7 != 0 {
				continue
			}
			if got := Cmp(a, b); got != values[i].Cmp(values[j]) {
				t.Errorf("Cmp(%v, %v) = %d", a, b, got)
			}
		}
	}
}

func TestRanged(t *testing.T) {
	within := []api.Dec{
		of("0", 0), of("0", 4000), of("0", -4000), minus(of("000", -301)), minus(of("0", 300)), of("1", 0), minus(of("1", 0)),
		of("1", 299), of("9", 299), minus(of("9", 299)), of(rep("9", 300), 0), minus(of(rep("9", 300), 0)), of(rep("9", 600), -300), of("0001", 299), of("000"+rep("9", 300), 0),
		of("1", -300), minus(of("1", -300)), of("10", -301), of("100", -302), of("110", -301), of("1"+rep("0", 3700), -4000), of("1"+rep("0", mostDigits-1), -4000), of("1"+rep("0", 599), -300),
	}
	beyond := []api.Dec{
		of("1", 300), minus(of("1", 300)), of("10", 299), of("1", 4000), of("1"+rep("0", 300), 0), of("1"+rep("0", 600), -300), of(rep("9", 301), 0), minus(of(rep("9", 301), 0)),
		of("1", -301), minus(of("1", -301)), of("11", -301), of("10", -302), of("1", -4000), of(rep("9", 600), -301), of("5"+rep("0", 300)+"5", -301), of("1"+rep("0", 3699), -4000),
		of("1"+rep("0", 299)+"1", 0), of("1"+rep("0", 600)+"1", -301),
	}
	for _, d := range within {
		if !Ranged(d) {
			t.Errorf("Ranged(%v): no", d)
		}
	}
	for _, d := range beyond {
		if Ranged(d) {
			t.Errorf("Ranged(%v): yes", d)
		}
	}
}

// TestRangedAgainstLibrary holds the range of all samples against math/big.
func TestRangedAgainstLibrary(t *testing.T) {
	ten := big.NewInt(10)
	finest := new(big.Int).Exp(ten, big.NewInt(mostExp-api.MaxPlace), nil)
	least := new(big.Int).Exp(ten, big.NewInt(mostExp+api.MaxPlace), nil)
	for _, d := range samples() {
		value := scaled(d, -mostExp)
		want := new(big.Int).Rem(value, finest).Sign() == 0 && value.CmpAbs(least) < 0
		if got := Ranged(d); got != want {
			t.Errorf("Ranged(%v) = %v", d, got)
		}
	}
}

// TestNoDecimals: nothing is promised of other decimals, but that the calls end, without a panic.
func TestNoDecimals(t *testing.T) {
	list := []api.Dec{{}}
	for _, digits := range []string{"", "x", "1x", "-1", "\xff", "\u0663", "1", "0", "1000", "0001", rep("9", 5000), rep("0", 5000)} {
		for _, exp := range []int{math.MinInt, math.MinInt + 1, -4001, 0, 4001, math.MaxInt - 2, math.MaxInt} {
			list = append(list, of(digits, exp), minus(of(digits, exp)))
		}
	}
	for _, a := range list {
		Good(a)
		Coef(a)
		Norm(a)
		Zero(a)
		Top(a)
		Ranged(a)
		for _, place := range []int{math.MinInt, -1, 0, 1, a.Exp - 1, a.Exp, a.Exp + 1, math.MaxInt} {
			Digit(a, place)
		}
		for _, b := range list {
			Cmp(a, b)
		}
	}
}
