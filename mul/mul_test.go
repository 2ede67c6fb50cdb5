package mul

import (
	"math/big"
	"slices"
	"testing"

	"figurehead/api"
	"figurehead/nat"
)

const most = api.Base - 1

// smalls are limbs for by and more, the ends among them.
var smalls = []uint32{0, 1, 2, 10, 31622, 31623, 500000000, most - 1, most}

// samples are numbers of all sorts: 0, noughts ahead, within and behind, nothing but the greatest limbs, several lengths.
func samples() [][]uint32 {
	list := [][]uint32{
		nil, {}, {0}, {0, 0, 0},
		{1}, {1, 0, 0}, {7}, {most}, {most, 0}, {31623}, {500000000},
		{0, 1}, {0, 0, 1}, {0, 0, 3, 0, 0}, {1, 0, 1}, {most, 0, 0, most}, {0, most, 0, 2, 0},
	}
	for n := 2; n <= 6; n++ {
		list = append(list, slices.Repeat([]uint32{most}, n))
	}
	state := uint32(54321)
	for n := range 12 {
		limbs := make([]uint32, n)
		for i := range limbs {
			state = state*1664525 + 1013904223
			limbs[i] = state % api.Base
		}
		list = append(list, limbs)
	}
	return list
}

// value is the number as the library's own, to hold the answers against.
func value(a []uint32) *big.Int {
	sum := new(big.Int)
	for _, limb := range slices.Backward(a) {
		sum.Mul(sum, big.NewInt(api.Base))
		sum.Add(sum, big.NewInt(int64(limb)))
	}
	return sum
}

// isAnswer tells whether a is want, with limbs below Base and no nought at its end.
func isAnswer(a []uint32, want *big.Int) bool {
	return nat.Good(a) && (len(a) == 0 || a[len(a)-1] != 0) && value(a).Cmp(want) == 0
}

func TestMul(t *testing.T) {
	cases := []struct{ a, b, want []uint32 }{
		{nil, nil, nil}, {nil, []uint32{5}, nil}, {[]uint32{0, 0}, []uint32{5, 6}, nil},
		{[]uint32{most, most}, []uint32{0}, nil},
		{[]uint32{1}, []uint32{5, 6}, []uint32{5, 6}},
		{[]uint32{6}, []uint32{7}, []uint32{42}},
		{[]uint32{6, 0}, []uint32{7, 0, 0}, []uint32{42}},
		{[]uint32{500000000}, []uint32{2}, []uint32{0, 1}},
		{[]uint32{0, 1}, []uint32{0, 0, 1}, []uint32{0, 0, 0, 1}},
		{[]uint32{0, 500000000}, []uint32{0, 2}, []uint32{0, 0, 0, 1}},
		{[]uint32{1, 1}, []uint32{1, 1}, []uint32{1, 2, 1}},
		{[]uint32{1, 0, 1}, []uint32{3, 4}, []uint32{3, 4, 3, 4}},
		{[]uint32{most}, []uint32{most}, []uint32{1, most - 1}},
		{[]uint32{most, most}, []uint32{most, most}, []uint32{1, 0, most - 1, most}},
		{[]uint32{most, most, most}, []uint32{most}, []uint32{1, most, most, most - 1}},
	}
	for _, c := range cases {
		if got := Mul(c.a, c.b); !slices.Equal(got, c.want) {
			t.Errorf("Mul(%v, %v) = %v, want %v", c.a, c.b, got, c.want)
		}
		if got := Mul(c.b, c.a); !slices.Equal(got, c.want) {
			t.Errorf("Mul(%v, %v) = %v, want %v", c.b, c.a, got, c.want)
		}
	}
}

func TestSmall(t *testing.T) {
	cases := []struct {
		a        []uint32
		by, more uint32
		want     []uint32
	}{
		{nil, 0, 0, nil}, {nil, 5, 0, nil}, {nil, 5, 3, []uint32{3}}, {nil, most, most, []uint32{most}},
		{[]uint32{0, 0}, 5, 0, nil}, {[]uint32{0, 0}, 5, 3, []uint32{3}},
		{[]uint32{7, 8}, 0, 0, nil}, {[]uint32{7, 8}, 0, 9, []uint32{9}},
		{[]uint32{7, 8}, 1, 0, []uint32{7, 8}}, {[]uint32{7, 8}, 1, 2, []uint32{9, 8}},
		{[]uint32{123, 0, 0}, 10, 4, []uint32{1234}},
		{[]uint32{500000000}, 2, 0, []uint32{0, 1}},
		{[]uint32{most}, 1, 1, []uint32{0, 1}},
		{[]uint32{most, most}, 1, most, []uint32{most - 1, 0, 1}},
		{[]uint32{most}, most, most, []uint32{0, most}},
		{[]uint32{most, most}, most, most, []uint32{0, 0, most}},
		{[]uint32{0, 0, 5}, 200000000, 6, []uint32{6, 0, 0, 1}},
	}
	for _, c := range cases {
		if got := Small(c.a, c.by, c.more); !slices.Equal(got, c.want) {
			t.Errorf("Small(%v, %d, %d) = %v, want %v", c.a, c.by, c.more, got, c.want)
		}
	}
}

// TestAgainstLibrary holds every pair of the samples, and each by all the small ones, against math/big.
func TestAgainstLibrary(t *testing.T) {
	for _, a := range samples() {
		for _, b := range samples() {
			if got := Mul(a, b); !isAnswer(got, new(big.Int).Mul(value(a), value(b))) {
				t.Errorf("Mul(%v, %v) = %v", a, b, got)
			}
		}
		if got := Mul(a, a); !isAnswer(got, new(big.Int).Mul(value(a), value(a))) {
			t.Errorf("Mul(%v) by itself = %v", a, got)
		}
		for _, by := range smalls {
			for _, more := range smalls {
				want := new(big.Int).Mul(value(a), big.NewInt(int64(by)))
				want.Add(want, big.NewInt(int64(more)))
				if got := Small(a, by, more); !isAnswer(got, want) {
					t.Errorf("Small(%v, %d, %d) = %v", a, by, more, got)
				}
			}
		}
	}
}

// TestLong: a carry runs through many limbs, and long numbers stay right.
func TestLong(t *testing.T) {
	for _, n := range []int{100, 701} {
		a, b := slices.Repeat([]uint32{most}, n), slices.Repeat([]uint32{most, 1}, 150)
		if !isAnswer(Mul(a, b), new(big.Int).Mul(value(a), value(b))) {
			t.Errorf("Mul of %d and %d limbs", len(a), len(b))
		}
		if got, want := Small(a, 1, 1), append(make([]uint32, n), 1); !slices.Equal(got, want) {
			t.Errorf("Small of %d limbs, by 1, and 1", n)
		}
	}
}

// roomy is a copy of a with spare room behind it, all of it marked.
func roomy(a []uint32) []uint32 {
	full := append(slices.Clone(a), 77, 77, 77, 77)
	return full[:len(a):len(full)]
}

func untouched(a, was []uint32) bool {
	full := a[:len(was)+4]
	return slices.Equal(full[:len(was)], was) && slices.Equal(full[len(was):], []uint32{77, 77, 77, 77})
}

// TestMemory: what is handed in, with its spare room, is as it was, and so is another answer, even when an answer is written over.
func TestMemory(t *testing.T) {
	calls := []func(a, b []uint32) []uint32{
		Mul,
		func(a, _ []uint32) []uint32 { return Mul(a, a) },
		func(a, _ []uint32) []uint32 { return Small(a, 1, 0) },
		func(_, b []uint32) []uint32 { return Small(b, 0, 5) },
		func(_, b []uint32) []uint32 { return Small(b, most, most) },
	}
	for i, call := range calls {
		for _, x := range samples() {
			for _, y := range samples() {
				a, b := roomy(x), roomy(y)
				got, again := call(a, b), call(a, b)
				if !slices.Equal(got, again) {
					t.Fatalf("call %d: two answers at %v, %v", i, x, y)
				}
				want := slices.Clone(again)
				got = got[:cap(got)]
				for j := range got {
					got[j] = 55
				}
				if !slices.Equal(again, want) || !untouched(a, x) || !untouched(b, y) {
					t.Fatalf("call %d: memory is shared, or changed, at %v, %v", i, x, y)
				}
			}
		}
	}
}

// TestNoNumbers: nothing is promised of other lists and limbs, but that the calls end, without a panic.
func TestNoNumbers(t *testing.T) {
	worst := slices.Repeat([]uint32{1<<32 - 1}, 20)
	Mul(worst, worst)
	Mul(nil, worst)
	for _, by := range []uint32{0, 1, api.Base, 1<<32 - 1} {
		Small(worst, by, 1<<32-1)
		Small(nil, by, api.Base)
	}
}
