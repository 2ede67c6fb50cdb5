package ten

import (
	"math"
	"math/big"
	"slices"
	"strings"
	"testing"

	"figurehead/api"
	"figurehead/div"
	"figurehead/nat"
)

const (
	most     = api.Base - 1
	greatest = 65536 // the greatest power of which the chapter speaks
)

// shifts are powers: below 0, about the lengths of limbs, and the greatest of which the chapter speaks.
var shifts = []int{math.MinInt, -9, -1, 0, 1, 2, 7, 8, 9, 10, 11, 17, 18, 19, 26, 27, 28, 36, 45, 100, 1000, greatest - 1, greatest}

// samples are numbers of all sorts: 0, noughts ahead, within and behind, all powers of ten in a limb and what lies about them, several lengths.
func samples() [][]uint32 {
	list := [][]uint32{
		nil, {}, {0}, {0, 0, 0},
		{7, 0, 0}, {most, 0}, {0, 1}, {1, 1}, {most, most}, {0, 0, 1}, {0, 0, 3, 0, 0}, {1, 0, 1},
		{456789012, 123}, {5, 0, 70}, {100000000, 10, 1000}, {most, 0, 0, most}, {0, most, 0, 2, 0},
	}
	for power := uint32(1); power < api.Base; power *= 10 {
		list = append(list, []uint32{power}, []uint32{power - 1}, []uint32{0, power}, []uint32{power, 0, power + 1}, []uint32{most, power - 1, 10*power - 1})
	}
	state := uint32(24680)
	for n := range 12 {
		limbs := make([]uint32, n)
		for i := range limbs {
			state = state*1664525 + 1013904223
			limbs[i] = state % api.Base
		}
		list = append(list, limbs)
	}
	return list
}

// value is the number as the library's own, to hold the answers against.
func value(a []uint32) *big.Int {
	sum := new(big.Int)
	for _, limb := range slices.Backward(a) {
		sum.Mul(sum, big.NewInt(api.Base))
		sum.Add(sum, big.NewInt(int64(limb)))
	}
	return sum
}

// power is ten to the power n; n below 0 counts as 0.
func power(n int) *big.Int {
	return new(big.Int).Exp(big.NewInt(10), big.NewInt(int64(max(n, 0))), nil)
}

// isAnswer tells whether a is want, with limbs below Base and no nought at its end.
func isAnswer(a []uint32, want *big.Int) bool {
	return nat.Good(a) && (len(a) == 0 || a[len(a)-1] != 0) && value(a).Cmp(want) == 0
}

// TestPowers: a limb's digits and the table belong to Base.
func TestPowers(t *testing.T) {
	for i, got := range powers {
		if int64(got) != power(i).Int64() {
			t.Errorf("power %d is %d", i, got)
		}
	}
	if power(perLimb).Int64() != api.Base {
		t.Errorf("a limb has not %d digits", perLimb)
	}
}

func TestDigits(t *testing.T) {
	cases := []struct {
		a    []uint32
		want string
	}{
		{nil, "0"}, {[]uint32{}, "0"}, {[]uint32{0}, "0"}, {[]uint32{0, 0, 0}, "0"},
		{[]uint32{1}, "1"}, {[]uint32{9}, "9"}, {[]uint32{10}, "10"}, {[]uint32{42, 0, 0}, "42"}, {[]uint32{100000000}, "100000000"},
		{[]uint32{most}, "999999999"}, {[]uint32{0, 1}, "1000000000"}, {[]uint32{1, 1}, "1000000001"},
		{[]uint32{456789012, 123}, "123456789012"}, {[]uint32{5, 0, 70}, "70000000000000000005"},
		{[]uint32{12345, 67, 0, 8, 0}, "8000000000000000067000012345"},
		{[]uint32{most, most}, "999999999999999999"}, {[]uint32{123456789, 987654321}, "987654321123456789"},
	}
	for _, c := range cases {
		if got := Digits(c.a); got != c.want {
			t.Errorf("Digits(%v) = %q, want %q", c.a, got, c.want)
		}
	}
}

func TestNumber(t *testing.T) {
	cases := []struct {
		s    string
		want []uint32
	}{
		{"0", nil}, {"000", nil}, {strings.Repeat("0", 100), nil},
		{"1", []uint32{1}}, {"9", []uint32{9}}, {"0042", []uint32{42}}, {"12345678", []uint32{12345678}},
		{"999999999", []uint32{most}}, {"1000000000", []uint32{0, 1}}, {"1000000001", []uint32{1, 1}},
		{"0000000001000000000", []uint32{0, 1}}, {strings.Repeat("0", 40) + "7", []uint32{7}},
		{"123456789012", []uint32{456789012, 123}}, {"70000000000000000005", []uint32{5, 0, 70}},
		{"999999999999999999", []uint32{most, most}}, {"1000000000000000000", []uint32{0, 0, 1}},
	}
	for _, c := range cases {
		if got, ok := Number(c.s); !ok || !slices.Equal(got, c.want) {
			t.Errorf("Number(%q) = %v, %v, want %v", c.s, got, ok, c.want)
		}
	}
}

// TestNoDigits: what has no bytes, or others than 0 to 9, wherever they stand, is no number, and leaves nothing beside the false.
func TestNoDigits(t *testing.T) {
	texts := []string{"", " ", "-", "+", "-1", "+1", "1-", "1.0", "1,000", "1e3", "1_0", "0x1", "12 ", " 12", "1a", "a1", "\x00", "1\n"}
	texts = append(texts, "/", ":", "1/", ":1", "\u0663", "1\u0663", "\u06631", "\uff11", "\u0660", "\u00b2", "\xff", "1\xff", "\xff1", "1\xe2\x82", "12345678901234567890\u0663", "x"+strings.Repeat("1", 40))
	for _, s := range texts {
		if got, ok := Number(s); ok || len(got) != 0 {
			t.Errorf("Number(%q) = %v, %v", s, got, ok)
		}
	}
	for b := range 256 {
		for _, s := range []string{string([]byte{byte(b)}), string([]byte{'1', byte(b)}), string([]byte{byte(b), '1'})} {
			if _, ok := Number(s); ok != (b >= '0' && b <= '9') {
				t.Errorf("Number(%q): %v", s, ok)
			}
		}
	}
}

func TestLen(t *testing.T) {
	cases := []struct {
		a    []uint32
		want int
	}{
		{nil, 0}, {[]uint32{}, 0}, {[]uint32{0}, 0}, {[]uint32{0, 0, 0}, 0},
		{[]uint32{1}, 1}, {[]uint32{9, 0, 0}, 1}, {[]uint32{10}, 2}, {[]uint32{99999999}, 8}, {[]uint32{100000000}, 9}, {[]uint32{most, 0}, 9},
		{[]uint32{0, 1}, 10}, {[]uint32{0, 0, 1}, 19}, {[]uint32{5, 0, 70, 0}, 20}, {[]uint32{most, most, most}, 27},
	}
	for _, c := range cases {
		if got := Len(c.a); got != c.want {
			t.Errorf("Len(%v) = %d, want %d", c.a, got, c.want)
		}
	}
}

func TestShift(t *testing.T) {
	cases := []struct {
		a    []uint32
		n    int
		want []uint32
	}{
		{nil, 0, nil}, {nil, 100, nil}, {[]uint32{0, 0}, 9, nil}, {[]uint32{0}, greatest, nil},
		{[]uint32{7}, 0, []uint32{7}}, {[]uint32{7, 0}, -1, []uint32{7}}, {[]uint32{7, 8, 0}, math.MinInt, []uint32{7, 8}},
		{[]uint32{7}, 1, []uint32{70}}, {[]uint32{7}, 8, []uint32{700000000}}, {[]uint32{7}, 9, []uint32{0, 7}}, {[]uint32{7}, 10, []uint32{0, 70}},
		{[]uint32{7}, 18, []uint32{0, 0, 7}}, {[]uint32{most}, 1, []uint32{999999990, 9}}, {[]uint32{most, 0}, 17, []uint32{0, 900000000, 99999999}},
		{[]uint32{456789012, 123}, 3, []uint32{789012000, 123456}}, {[]uint32{456789012, 123}, 9, []uint32{0, 456789012, 123}},
	}
	for _, c := range cases {
		if got := Shift(c.a, c.n); !slices.Equal(got, c.want) {
			t.Errorf("Shift(%v, %d) = %v, want %v", c.a, c.n, got, c.want)
		}
	}
}

func TestCut(t *testing.T) {
	cases := []struct {
		a    []uint32
		n    int
		q, r []uint32
	}{
		{[]uint32{1234}, 2, []uint32{12}, []uint32{34}},
		{nil, 0, nil, nil}, {nil, 5, nil, nil}, {[]uint32{0, 0}, 1, nil, nil}, {[]uint32{0, 0}, 100, nil, nil}, {[]uint32{0}, -1, nil, nil},
		{[]uint32{1234, 0}, 0, []uint32{1234}, nil}, {[]uint32{1234, 5, 0}, -7, []uint32{1234, 5}, nil}, {[]uint32{5}, math.MinInt, []uint32{5}, nil},
		{[]uint32{1234}, 3, []uint32{1}, []uint32{234}}, {[]uint32{1234}, 4, nil, []uint32{1234}}, {[]uint32{1200}, 2, []uint32{12}, nil},
		{[]uint32{1034}, 3, []uint32{1}, []uint32{34}}, {[]uint32{most}, 8, []uint32{9}, []uint32{99999999}}, {[]uint32{most, 0}, 9, nil, []uint32{most}},
		{[]uint32{456789012, 123}, 9, []uint32{123}, []uint32{456789012}}, {[]uint32{456789012, 123}, 10, []uint32{12}, []uint32{456789012, 3}},
		{[]uint32{456789012, 123}, 11, []uint32{1}, []uint32{456789012, 23}}, {[]uint32{456789012, 123}, 12, nil, []uint32{456789012, 123}},
		{[]uint32{456789012, 123}, 3, []uint32{123456789}, []uint32{12}}, {[]uint32{0, 0, 1}, 18, []uint32{1}, nil},
		{[]uint32{9, 0, 1}, 18, []uint32{1}, []uint32{9}}, {[]uint32{9, 0, 1}, 17, []uint32{10}, []uint32{9}}, {[]uint32{9, 0, 1}, 19, nil, []uint32{9, 0, 1}},
		{[]uint32{9, 8}, greatest, nil, []uint32{9, 8}}, {[]uint32{9, 8, 0}, math.MaxInt, nil, []uint32{9, 8}},
	}
	for _, c := range cases {
		if q, r := Cut(c.a, c.n); !slices.Equal(q, c.q) || !slices.Equal(r, c.r) {
			t.Errorf("Cut(%v, %d) = %v, %v, want %v, %v", c.a, c.n, q, r, c.q, c.r)
		}
	}
}

// TestTextsAgainstLibrary holds the digits of all samples, there and back, against math/big.
func TestTextsAgainstLibrary(t *testing.T) {
	for _, a := range samples() {
		want := value(a).String()
		if got := Digits(a); got != want {
			t.Errorf("Digits(%v) = %q", a, got)
		}
		if got := Len(a); got != len(strings.TrimLeft(want, "0")) {
			t.Errorf("Len(%v) = %d", a, got)
		}
		for ahead := range 20 {
			s := strings.Repeat("0", ahead) + want
			if got, ok := Number(s); !ok || !isAnswer(got, value(a)) {
				t.Errorf("Number(%q) = %v, %v", s, got, ok)
			}
		}
	}
}

// TestPowersAgainstLibrary holds all samples, by all powers, against math/big, and Cut against DivMod, too.
func TestPowersAgainstLibrary(t *testing.T) {
	for _, n := range shifts {
		factor, one := power(n), Shift([]uint32{1}, n)
		if !isAnswer(one, factor) {
			t.Errorf("Shift of 1, %d", n)
		}
		for _, a := range samples() {
			shifted := Shift(a, n)
			if !isAnswer(shifted, new(big.Int).Mul(value(a), factor)) {
				t.Errorf("Shift(%v, %d)", a, n)
			}
			if q, r := Cut(shifted, n); !slices.Equal(q, nat.Trim(a)) || len(r) != 0 {
				t.Errorf("Cut(Shift(%v, %d)) = %v, %v", a, n, q, r)
			}
			q, r := Cut(a, n)
			wantQ, wantR := new(big.Int).QuoRem(value(a), factor, new(big.Int))
			if !isAnswer(q, wantQ) || !isAnswer(r, wantR) {
				t.Errorf("Cut(%v, %d) = %v, %v", a, n, q, r)
			}
			if divQ, divR, ok := div.DivMod(a, one); !ok || !slices.Equal(q, divQ) || !slices.Equal(r, divR) {
				t.Errorf("Cut(%v, %d) = %v, %v, but DivMod %v, %v, %v", a, n, q, r, divQ, divR, ok)
			}
		}
	}
}

// TestLong: long numbers stay right.
func TestLong(t *testing.T) {
	for _, n := range []int{1000, 4000, 20001} {
		digits := strings.Repeat("9876543210", n)
		a, ok := Number(digits)
		if !ok || Digits(a) != digits || Len(a) != len(digits) {
			t.Errorf("%d digits", len(digits))
		}
		for _, k := range []int{0, 1, 9, 500, 4999, greatest} {
			q, r := Cut(a, k)
			whole := digits[:max(len(digits)-k, 0)]
			wantQ, _ := new(big.Int).SetString("0"+whole, 10)
			wantR, _ := new(big.Int).SetString("0"+digits[len(whole):], 10)
			if Digits(q) != wantQ.String() || Digits(r) != wantR.String() {
				t.Errorf("Cut of %d digits, %d", len(digits), k)
			}
			if Digits(Shift(a, k)) != digits+strings.Repeat("0", k) {
				t.Errorf("Shift of %d digits, %d", len(digits), k)
			}
		}
	}
}

// roomy is a copy of a with spare room behind it, all of it marked.
func roomy(a []uint32) []uint32 {
	full := append(slices.Clone(a), 77, 77, 77, 77)
	return full[:len(a):len(full)]
}

func untouched(a, was []uint32) bool {
	full := a[:len(was)+4]
	return slices.Equal(full[:len(was)], was) && slices.Equal(full[len(was):], []uint32{77, 77, 77, 77})
}

// overwrite writes over all of a, its spare room included.
func overwrite(a []uint32) {
	a = a[:cap(a)]
	for i := range a {
		a[i] = 55
	}
}

// TestMemory: what is handed in, with its spare room, is as it was, and so is every other answer, even when an answer is written over.
func TestMemory(t *testing.T) {
	calls := []func(a []uint32, n int) (x, y []uint32){
		Cut,
		func(a []uint32, n int) (x, y []uint32) { return Shift(a, n), nil },
		func(a []uint32, _ int) (x, y []uint32) { x, _ = Number(Digits(a)); return x, nil },
		func(a []uint32, _ int) (x, y []uint32) { Len(a); return nil, nil },
	}
	for i, call := range calls {
		for _, was := range samples() {
			for _, n := range []int{-1, 0, 1, 8, 9, 10, 18, 27, 100} {
				a := roomy(was)
				x, y := call(a, n)
				wantX, wantY := slices.Clone(x), slices.Clone(y)
				againX, againY := call(a, n)
				overwrite(x)
				if !slices.Equal(y, wantY) {
					t.Fatalf("call %d: two lists of an answer share memory at %v, %d", i, was, n)
				}
				overwrite(y)
				if !slices.Equal(againX, wantX) || !slices.Equal(againY, wantY) || !untouched(a, was) {
					t.Fatalf("call %d: memory is shared, or changed, at %v, %d", i, was, n)
				}
			}
		}
	}
}

// TestFromEnd: whoever ranges may stop at any limb.
func TestFromEnd(t *testing.T) {
	a := []uint32{3, 0, 2, 1, 0, 0}
	want := []uint32{1, 2, 0, 3}
	for stop := range 5 {
		var got []uint32
		for limb := range fromEnd(a) {
			if len(got) == stop {
				break
			}
			got = append(got, limb)
		}
		if !slices.Equal(got, want[:stop]) {
			t.Errorf("the first %d limbs from the end: %v", stop, got)
		}
	}
}

// TestNoNumbers: nothing is promised of other limbs, and of greater powers, but that the calls end, without a panic.
func TestNoNumbers(t *testing.T) {
	lists := [][]uint32{nil, {0}, {5, 6}, {api.Base}, {0, api.Base}, {1<<32 - 1}, slices.Repeat([]uint32{1<<32 - 1}, 20), {api.Base, 0, 0}}
	for _, a := range lists {
		Digits(a)
		Len(a)
		for _, n := range append([]int{greatest + 1, 1 << 40, math.MaxInt}, shifts...) {
			Shift(a, n)
			Cut(a, n)
		}
	}
}
