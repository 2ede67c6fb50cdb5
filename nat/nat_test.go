package nat

import (
	"math/big"
	"slices"
	"testing"

	"figurehead/api"
)

// samples are numbers of all sorts: 0 and limbs at their ends, noughts within and behind, several lengths.
func samples() [][]uint32 {
	list := [][]uint32{
		nil, {}, {0}, {0, 0, 0},
		{1}, {1, 0}, {2}, {7, 0, 0}, {999999998}, {999999999},
		{0, 1}, {0, 1, 0}, {1, 1}, {0, 2}, {999999999, 1}, {0, 999999999},
		{999999999, 999999999}, {0, 0, 1}, {1, 0, 1}, {0, 5, 0, 0, 7}, {999999999, 0, 1},
		{999999999, 999999999, 999999999, 999999999}, {0, 0, 0, 0, 1},
	}
	state := uint32(12345)
	for n := range 12 {
		limbs := make([]uint32, n)
		for i := range limbs {
			state = state*1664525 + 1013904223
			limbs[i] = state % api.Base
		}
		list = append(list, limbs)
	}
	return list
}

// value is the number as the library's own, to hold the answers against.
func value(a []uint32) *big.Int {
	sum := new(big.Int)
	for i := len(a) - 1; i >= 0; i-- {
		sum.Mul(sum, big.NewInt(api.Base))
		sum.Add(sum, big.NewInt(int64(a[i])))
	}
	return sum
}

// checkForm wants an answered number: limbs below Base, no nought at the end.
func checkForm(t *testing.T, a []uint32) {
	t.Helper()
	if !Good(a) || len(a) > 0 && a[len(a)-1] == 0 {
		t.Errorf("%v is no answer's form", a)
	}
}

func TestGood(t *testing.T) {
	for _, a := range [][]uint32{nil, {}, {0}, {0, 0}, {999999999}, {999999999, 0, 999999999}} {
		if !Good(a) {
			t.Errorf("Good(%v) = false", a)
		}
	}
	for _, a := range [][]uint32{{1000000000}, {4294967295}, {1000000000, 0, 1}, {0, 1000000000, 1}, {0, 1, 1000000000}} {
		if Good(a) {
			t.Errorf("Good(%v) = true", a)
		}
	}
}

func TestTrim(t *testing.T) {
	cases := []struct{ in, want []uint32 }{
		{nil, nil}, {[]uint32{}, nil}, {[]uint32{0}, nil}, {[]uint32{0, 0, 0}, nil},
		{[]uint32{7}, []uint32{7}}, {[]uint32{7, 0}, []uint32{7}}, {[]uint32{0, 7, 0, 0}, []uint32{0, 7}},
		{[]uint32{0, 0, 7}, []uint32{0, 0, 7}}, {[]uint32{1, 0, 2, 0}, []uint32{1, 0, 2}},
		{[]uint32{999999999, 999999999}, []uint32{999999999, 999999999}},
	}
	for _, c := range cases {
		if got := Trim(c.in); !slices.Equal(got, c.want) {
			t.Errorf("Trim(%v) = %v, want %v", c.in, got, c.want)
		}
	}
}

func TestCmp(t *testing.T) {
	cases := []struct {
		a, b []uint32
		want int
	}{
		{nil, nil, 0}, {nil, []uint32{0, 0}, 0}, {[]uint32{5, 0}, []uint32{5}, 0},
		{nil, []uint32{1}, -1}, {[]uint32{1}, []uint32{0}, 1},
		{[]uint32{1, 0}, []uint32{2}, -1}, {[]uint32{2}, []uint32{1, 0, 0}, 1},
		{[]uint32{999999999}, []uint32{0, 1}, -1}, {[]uint32{0, 1}, []uint32{999999999}, 1},
		{[]uint32{9, 1}, []uint32{1, 2}, -1}, {[]uint32{1, 2}, []uint32{9, 1}, 1},
		{[]uint32{1, 5, 3}, []uint32{2, 5, 3}, -1}, {[]uint32{2, 5, 3}, []uint32{1, 5, 3}, 1},
	}
	for _, c := range cases {
		if got := Cmp(c.a, c.b); got != c.want {
			t.Errorf("Cmp(%v, %v) = %d, want %d", c.a, c.b, got, c.want)
		}
	}
}

func TestAdd(t *testing.T) {
	cases := []struct{ a, b, want []uint32 }{
		{nil, nil, nil}, {nil, []uint32{0, 0}, nil}, {[]uint32{0}, []uint32{3, 0}, []uint32{3}},
		{[]uint32{1}, []uint32{2}, []uint32{3}},
		{[]uint32{999999999}, []uint32{1}, []uint32{0, 1}},
		{[]uint32{999999998}, []uint32{1}, []uint32{999999999}},
		{[]uint32{999999999}, []uint32{999999999}, []uint32{999999998, 1}},
		{[]uint32{999999999, 999999999}, []uint32{1, 0, 0}, []uint32{0, 0, 1}},
		{[]uint32{1}, []uint32{999999999, 999999999, 4}, []uint32{0, 0, 5}},
		{[]uint32{5, 0, 0}, []uint32{0, 0, 6}, []uint32{5, 0, 6}},
	}
	for _, c := range cases {
		if got := Add(c.a, c.b); !slices.Equal(got, c.want) {
			t.Errorf("Add(%v, %v) = %v, want %v", c.a, c.b, got, c.want)
		}
	}
}

func TestSub(t *testing.T) {
	cases := []struct {
		a, b, want []uint32
		ok         bool
	}{
		{nil, nil, nil, true}, {nil, []uint32{0, 0}, nil, true}, {[]uint32{5}, []uint32{5, 0}, nil, true},
		{[]uint32{5, 0}, []uint32{3}, []uint32{2}, true},
		{[]uint32{0, 1}, []uint32{1}, []uint32{999999999}, true},
		{[]uint32{0, 0, 1}, []uint32{1}, []uint32{999999999, 999999999}, true},
		{[]uint32{0, 0, 1}, []uint32{0, 999999999, 0, 0}, []uint32{0, 1}, true},
		{[]uint32{7, 8, 9}, []uint32{6, 8, 9}, []uint32{1}, true},
		{[]uint32{5}, []uint32{6}, nil, false}, {nil, []uint32{1}, nil, false},
		{[]uint32{999999999}, []uint32{0, 1}, nil, false}, {[]uint32{9, 1, 0, 0}, []uint32{0, 2}, nil, false},
	}
	for _, c := range cases {
		if got, ok := Sub(c.a, c.b); !slices.Equal(got, c.want) || ok != c.ok {
			t.Errorf("Sub(%v, %v) = %v, %v, want %v, %v", c.a, c.b, got, ok, c.want, c.ok)
		}
	}
}

// TestAgainstLibrary holds every pair of the samples against math/big.
func TestAgainstLibrary(t *testing.T) {
	for _, a := range samples() {
		trimmed := Trim(a)
		checkForm(t, trimmed)
		if value(trimmed).Cmp(value(a)) != 0 {
			t.Errorf("Trim(%v) = %v", a, trimmed)
		}
		for _, b := range samples() {
			checkPair(t, a, b)
		}
	}
}

func checkPair(t *testing.T, a, b []uint32) {
	order := value(a).Cmp(value(b))
	if got := Cmp(a, b); got != order {
		t.Errorf("Cmp(%v, %v) = %d, want %d", a, b, got, order)
	}
	sum := Add(a, b)
	checkForm(t, sum)
	if value(sum).Cmp(new(big.Int).Add(value(a), value(b))) != 0 {
		t.Errorf("Add(%v, %v) = %v", a, b, sum)
	}
	diff, ok := Sub(a, b)
	checkForm(t, diff)
	if ok != (order >= 0) {
		t.Errorf("Sub(%v, %v): %v", a, b, ok)
	}
	if ok && value(diff).Cmp(new(big.Int).Sub(value(a), value(b))) != 0 {
		t.Errorf("Sub(%v, %v) = %v", a, b, diff)
	}
	if !ok && len(diff) != 0 {
		t.Errorf("Sub(%v, %v) = %v beside false", a, b, diff)
	}
}

// roomy is a copy of a with spare room behind it, all of it marked.
func roomy(a []uint32) []uint32 {
	full := make([]uint32, len(a)+4)
	copy(full, a)
	for i := len(a); i < len(full); i++ {
		full[i] = 77
	}
	return full[:len(a)]
}

// TestMemory: what is handed in, with its spare room, is as it was, even when the answer, with its own, is written over.
func TestMemory(t *testing.T) {
	calls := []func(a, b []uint32) []uint32{
		func(a, b []uint32) []uint32 { return Trim(a) },
		Add,
		func(a, b []uint32) []uint32 { return Add(b, a) },
		func(a, b []uint32) []uint32 { d, _ := Sub(a, b); return d },
	}
	for i, call := range calls {
		for _, x := range samples() {
			for _, y := range samples() {
				a, b := roomy(x), roomy(y)
				got := call(a, b)
				got = got[:cap(got)]
				again := call(a, b)
				want := slices.Clone(again)
				for j := range got {
					got[j] = 55
				}
				if !slices.Equal(again, want) {
					t.Fatalf("call %d: two answers share memory at %v, %v", i, x, y)
				}
				untouched(t, a, x)
				untouched(t, b, y)
			}
		}
	}
}

func untouched(t *testing.T, a, was []uint32) {
	t.Helper()
	full := a[:cap(a)]
	if !slices.Equal(full[:len(was)], was) || !slices.Equal(full[len(was):len(was)+4], []uint32{77, 77, 77, 77}) {
		t.Fatalf("%v was changed to %v", was, full)
	}
}

// TestSameNumber: both arguments may be one list.
func TestSameNumber(t *testing.T) {
	for _, a := range samples() {
		if Cmp(a, a) != 0 {
			t.Errorf("Cmp(%v) with itself", a)
		}
		if diff, ok := Sub(a, a); !ok || len(diff) != 0 {
			t.Errorf("Sub(%v) of itself = %v, %v", a, diff, ok)
		}
		if sum := Add(a, a); value(sum).Cmp(new(big.Int).Lsh(value(a), 1)) != 0 {
			t.Errorf("Add(%v) to itself = %v", a, sum)
		}
	}
}
