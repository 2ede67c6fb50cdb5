package div

import (
	"math/big"
	"slices"
	"testing"

	"figurehead/api"
	"figurehead/mul"
	"figurehead/nat"
)

const (
	most = api.Base - 1
	half = api.Base / 2
)

// smalls are limbs to divide by, the ends among them, but for 0.
var smalls = []uint32{1, 2, 3, 7, 10, 31622, 31623, half - 1, half, half + 1, most - 1, most}

// samples are numbers of all sorts: 0, noughts ahead, within and behind, limbs at their ends and about the half of Base, several lengths.
func samples() [][]uint32 {
	list := [][]uint32{
		nil, {}, {0}, {0, 0, 0},
		{1}, {2, 0, 0}, {7}, {10}, {most}, {most, 0}, {half}, {half - 1},
		{0, 1}, {1, 1}, {most, 1}, {0, 0, 1}, {0, 0, 3, 0, 0}, {1, 0, 1}, {most, 0, 0, most}, {0, most, 0, 2, 0},
		{0, half}, {most, half}, {0, half - 1}, {most, half - 1}, {most, most, half}, {1, most, half - 1, half},
		{0, most, half - 1}, {0, most - 1, half}, {0, 0, 0, half, half}, {most, most, most, 0, half - 1},
	}
	for n := 2; n <= 6; n++ {
		list = append(list, slices.Repeat([]uint32{most}, n), append(make([]uint32, n), 1))
	}
	state := uint32(98765)
	for n := range 14 {
		limbs := make([]uint32, n)
		for i := range limbs {
			state = state*1664525 + 1013904223
			limbs[i] = state % api.Base
		}
		list = append(list, limbs)
	}
	return list
}

// value is the number as the library's own, to hold the answers against.
func value(a []uint32) *big.Int {
	sum := new(big.Int)
	for _, limb := range slices.Backward(a) {
		sum.Mul(sum, big.NewInt(api.Base))
		sum.Add(sum, big.NewInt(int64(limb)))
	}
	return sum
}

// isAnswer tells whether a is want, with limbs below Base and no nought at its end.
func isAnswer(a []uint32, want *big.Int) bool {
	return nat.Good(a) && (len(a) == 0 || a[len(a)-1] != 0) && value(a).Cmp(want) == 0
}

// checkDivMod holds DivMod of a and b against math/big.
func checkDivMod(t *testing.T, a, b []uint32) {
	t.Helper()
	q, r, ok := DivMod(a, b)
	if value(b).Sign() == 0 {
		if len(q) != 0 || len(r) != 0 || ok {
			t.Errorf("DivMod(%v, %v) = %v, %v, %v", a, b, q, r, ok)
		}
		return
	}
	wantQ, wantR := new(big.Int).QuoRem(value(a), value(b), new(big.Int))
	if !ok || !isAnswer(q, wantQ) || !isAnswer(r, wantR) {
		t.Errorf("DivMod(%v, %v) = %v, %v, %v", a, b, q, r, ok)
	}
}

// checkSmall holds Small of a and by, which is above 0, against math/big.
func checkSmall(t *testing.T, a []uint32, by uint32) {
	t.Helper()
	wantQ, wantR := new(big.Int).QuoRem(value(a), big.NewInt(int64(by)), new(big.Int))
	if q, r, ok := Small(a, by); !ok || !isAnswer(q, wantQ) || int64(r) != wantR.Int64() {
		t.Errorf("Small(%v, %d) = %v, %d, %v", a, by, q, r, ok)
	}
}

func TestDivMod(t *testing.T) {
	cases := []struct{ a, b, q, r []uint32 }{
		{[]uint32{7}, []uint32{2}, []uint32{3}, []uint32{1}},
		{nil, []uint32{5}, nil, nil}, {[]uint32{0, 0}, []uint32{5, 6}, nil, nil},
		{[]uint32{5, 6}, []uint32{1, 0}, []uint32{5, 6}, nil},
		{[]uint32{5, 6}, []uint32{5, 6, 0}, []uint32{1}, nil},
		{[]uint32{5, 6, 0}, []uint32{6, 6}, nil, []uint32{5, 6}},
		{[]uint32{6, 6}, []uint32{5, 6}, []uint32{1}, []uint32{1}},
		{[]uint32{5, 0}, []uint32{0, 1}, nil, []uint32{5}},
		{[]uint32{most}, []uint32{0, 1}, nil, []uint32{most}},
		{[]uint32{0, 1}, []uint32{most}, []uint32{1}, []uint32{1}},
		{[]uint32{0, 0, 1}, []uint32{2}, []uint32{0, half}, nil},
		{[]uint32{3, 4, 5}, []uint32{0, 1}, []uint32{4, 5}, []uint32{3}},
		{[]uint32{1, 0, 1}, []uint32{1, 1}, []uint32{most}, []uint32{2}},
		{[]uint32{1, 2, 1}, []uint32{1, 1, 0, 0}, []uint32{1, 1}, nil},
		{[]uint32{1, 0, most - 1, most}, []uint32{most, most}, []uint32{most, most}, nil},
		{[]uint32{0, 0, most - 1, most}, []uint32{most, most}, []uint32{most - 1, most}, []uint32{most - 1, most}},
		{[]uint32{0, 0, 0, 0, 1}, []uint32{0, 0, 1}, []uint32{0, 0, 1}, nil},
		{[]uint32{9, 0, 7, 0, 2}, []uint32{0, 0, 1}, []uint32{7, 0, 2}, []uint32{9}},
	}
	for _, c := range cases {
		if q, r, ok := DivMod(c.a, c.b); !ok || !slices.Equal(q, c.q) || !slices.Equal(r, c.r) {
			t.Errorf("DivMod(%v, %v) = %v, %v, %v, want %v, %v", c.a, c.b, q, r, ok, c.q, c.r)
		}
	}
}

func TestSmall(t *testing.T) {
	cases := []struct {
		a    []uint32
		by   uint32
		q    []uint32
		rest uint32
	}{
		{[]uint32{7}, 2, []uint32{3}, 1}, {nil, 5, nil, 0}, {[]uint32{0, 0}, 5, nil, 0},
		{[]uint32{5, 6, 0}, 1, []uint32{5, 6}, 0}, {[]uint32{4, 0}, 5, nil, 4}, {[]uint32{5}, 5, []uint32{1}, 0},
		{[]uint32{1, 1}, 2, []uint32{half}, 1}, {[]uint32{0, 1}, most, []uint32{1}, 1},
		{[]uint32{0, most}, most, []uint32{0, 1}, 0}, {[]uint32{most, most}, most, []uint32{1, 1}, 0},
		{[]uint32{most, most - 1}, most, []uint32{most}, most - 1},
		{[]uint32{0, 0, 1}, 10, []uint32{0, 100000000}, 0},
	}
	for _, c := range cases {
		if q, r, ok := Small(c.a, c.by); !ok || !slices.Equal(q, c.q) || r != c.rest {
			t.Errorf("Small(%v, %d) = %v, %d, %v, want %v, %d", c.a, c.by, q, r, ok, c.q, c.rest)
		}
	}
}

// TestByNothing: 0, with noughts or without, divides nothing, and leaves nothing beside the false.
func TestByNothing(t *testing.T) {
	for _, a := range samples() {
		for _, b := range [][]uint32{nil, {}, {0}, {0, 0, 0}} {
			checkDivMod(t, a, b)
		}
		if q, r, ok := Small(a, 0); len(q) != 0 || r != 0 || ok {
			t.Errorf("Small(%v, 0) = %v, %d, %v", a, q, r, ok)
		}
	}
}

// TestAgainstLibrary holds every pair of the samples, their products and what lies about these, against math/big.
func TestAgainstLibrary(t *testing.T) {
	for _, a := range samples() {
		for _, b := range samples() {
			checkDivMod(t, a, b)
			product := mul.Mul(a, b)
			checkDivMod(t, product, b)
			checkDivMod(t, nat.Add(product, []uint32{1}), b)
			checkDivMod(t, nat.Add(product, b), b)
			if less, ok := nat.Sub(product, []uint32{1}); ok {
				checkDivMod(t, less, b)
			}
		}
		for _, by := range smalls {
			checkSmall(t, a, by)
			checkDivMod(t, a, []uint32{by})
		}
	}
}

// TestEdgeLimbs holds all short numbers of limbs at the ends against math/big: among them are those where the last limbs alone tell too much, by 1 or by 2.
func TestEdgeLimbs(t *testing.T) {
	edges := []uint32{0, 1, half - 1, half, most - 1, most}
	numbers := [][]uint32{{}}
	for first, n := 0, 0; n < 4; n++ {
		last := len(numbers)
		for _, short := range numbers[first:last] {
			for _, limb := range edges {
				numbers = append(numbers, append([]uint32{limb}, short...))
			}
		}
		first = last
	}
	for _, a := range numbers {
		for _, b := range numbers {
			if len(b) <= 3 {
				checkDivMod(t, a, b)
			}
		}
	}
}

// TestGuess: the last limbs alone tell just how often, or 1 too many, or 2, and what is then left is right all the same.
func TestGuess(t *testing.T) {
	cases := []struct {
		a, b           []uint32
		guessed, times uint32
	}{
		{[]uint32{0, 0, 7}, []uint32{0, most}, 7, 7},
		{[]uint32{most, 5}, []uint32{0, half}, 0, 0},
		{[]uint32{most, most, half - 1}, []uint32{0, half}, most, most},
		{[]uint32{0, 0, 7}, []uint32{most, most}, 7, 7},
		{[]uint32{0, half}, []uint32{1, half}, 1, 0},
		{[]uint32{most, most, half}, []uint32{most, half + 1}, most, most - 1},
		{[]uint32{0, half, half - 1}, []uint32{most, half}, most, most - 2},
		{[]uint32{0, 0, half}, []uint32{1, half}, most, most},
	}
	for _, c := range cases {
		if got := guess(c.a, c.b); got != c.guessed {
			t.Errorf("guess(%v, %v) = %d, want %d", c.a, c.b, got, c.guessed)
		}
		times, rest := step(c.a, c.b)
		back := new(big.Int).Mul(value(c.b), big.NewInt(int64(c.times)))
		if times != c.times || !isAnswer(rest, back.Sub(value(c.a), back)) {
			t.Errorf("step(%v, %v) = %d, %v, want %d", c.a, c.b, times, rest, c.times)
		}
		checkDivMod(t, c.a, c.b)
	}
}

// TestLong: long numbers stay right.
func TestLong(t *testing.T) {
	for _, n := range []int{2, 99, 150, 450} {
		a, b := slices.Repeat([]uint32{most, 0, 1}, 150), slices.Repeat([]uint32{most}, n)
		checkDivMod(t, a, b)
		checkDivMod(t, a, append(make([]uint32, n-1), 3))
		checkDivMod(t, mul.Mul(a, b), b)
		checkDivMod(t, mul.Mul(a, b), a)
		checkSmall(t, a, 7)
	}
}

// roomy is a copy of a with spare room behind it, all of it marked.
func roomy(a []uint32) []uint32 {
	full := append(slices.Clone(a), 77, 77, 77, 77)
	return full[:len(a):len(full)]
}

func untouched(a, was []uint32) bool {
	full := a[:len(was)+4]
	return slices.Equal(full[:len(was)], was) && slices.Equal(full[len(was):], []uint32{77, 77, 77, 77})
}

// overwrite writes over all of a, its spare room included.
func overwrite(a []uint32) {
	a = a[:cap(a)]
	for i := range a {
		a[i] = 55
	}
}

// TestMemory: what is handed in, with its spare room, is as it was, and so is every other answer, even when an answer is written over.
func TestMemory(t *testing.T) {
	calls := []func(a, b []uint32) (q, r []uint32){
		func(a, b []uint32) (q, r []uint32) { q, r, _ = DivMod(a, b); return },
		func(a, _ []uint32) (q, r []uint32) { q, r, _ = DivMod(a, a); return },
		func(a, _ []uint32) (q, r []uint32) { q, _, _ = Small(a, 1); return },
		func(_, b []uint32) (q, r []uint32) { q, _, _ = Small(b, most); return },
	}
	for i, call := range calls {
		for _, x := range samples() {
			for _, y := range samples() {
				a, b := roomy(x), roomy(y)
				q, r := call(a, b)
				wantQ, wantR := slices.Clone(q), slices.Clone(r)
				againQ, againR := call(a, b)
				overwrite(q)
				if !slices.Equal(r, wantR) {
					t.Fatalf("call %d: quotient and rest share memory at %v, %v", i, x, y)
				}
				overwrite(r)
				if !slices.Equal(againQ, wantQ) || !slices.Equal(againR, wantR) || !untouched(a, x) || !untouched(b, y) {
					t.Fatalf("call %d: memory is shared, or changed, at %v, %v", i, x, y)
				}
			}
		}
	}
}

// TestNoNumbers: nothing is promised of other lists and limbs, but that the calls end, without a panic.
func TestNoNumbers(t *testing.T) {
	lists := [][]uint32{
		nil, {5}, {5, 6}, {7, 7, 7, 7}, {api.Base}, {0, api.Base}, {api.Base, 1}, {1, 1<<32 - 1}, {1<<32 - 1, 1, 1},
		slices.Repeat([]uint32{1<<32 - 1}, 20), slices.Repeat([]uint32{api.Base}, 3),
	}
	for _, a := range lists {
		for _, b := range lists {
			DivMod(a, b)
		}
		for _, by := range []uint32{0, 1, api.Base, 1<<32 - 1} {
			Small(a, by)
		}
	}
}
