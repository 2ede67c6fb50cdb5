package mode

import (
	"math"
	"testing"

	"figurehead/api"
)

// noWays are numbers beside the eight ways, their neighbours and those whose last bits are a way's.
var noWays = []int{-1, -2, -8, api.Exact + 1, 9, 16, 255, 256, 1 << 32, 1<<32 + api.Up, math.MinInt, math.MinInt + api.Up, math.MaxInt}

var signs = []bool{false, true}

func TestGood(t *testing.T) {
	ways := []int{api.Ceiling, api.Floor, api.Up, api.Down, api.HalfEven, api.HalfUp, api.HalfDown, api.Exact}
	for number, m := range ways {
		if m != number || !Good(m) {
			t.Errorf("Good(%d) = false", m)
		}
	}
	for m := -300; m <= 300; m++ {
		if got, want := Good(m), m >= 0 && m <= 7; got != want {
			t.Errorf("Good(%d) = %v", m, got)
		}
	}
	for _, m := range noWays {
		if Good(m) {
			t.Errorf("Good(%d) = true", m)
		}
	}
}

// TestAway holds all there is to ask against a table; each text tells less than half, half and more, first of an even neighbour, then of an odd one.
func TestAway(t *testing.T) {
	cases := []struct {
		m          int
		above, neg string
	}{
		{api.Ceiling, "yyy yyy", "nnn nnn"},
		{api.Floor, "nnn nnn", "yyy yyy"},
		{api.Up, "yyy yyy", "yyy yyy"},
		{api.Down, "nnn nnn", "nnn nnn"},
		{api.HalfEven, "nny nyy", "nny nyy"},
		{api.HalfUp, "nyy nyy", "nyy nyy"},
		{api.HalfDown, "nny nny", "nny nny"},
		{api.Exact, "nnn nnn", "nnn nnn"},
	}
	halves := [3][]int{{-1, -2, -1000, math.MinInt + 1, math.MinInt}, {0}, {1, 2, 1000, math.MaxInt - 1, math.MaxInt}}
	for _, c := range cases {
		for side, list := range halves {
			for _, half := range list {
				for _, neg := range signs {
					want := c.above
					if neg {
						want = c.neg
					}
					holdAway(t, c.m, neg, false, half, want[side] == 'y')
					holdAway(t, c.m, neg, true, half, want[4+side] == 'y')
				}
			}
		}
	}
}

func holdAway(t *testing.T, m int, neg, odd bool, half int, want bool) {
	t.Helper()
	if got := Away(m, neg, odd, half); got != want {
		t.Errorf("Away(%d, %v, %v, %d) = %v", m, neg, odd, half, got)
	}
}

// TestAwayNoWay: what is no way takes nothing away from 0, and does not panic.
func TestAwayNoWay(t *testing.T) {
	for _, m := range noWays {
		for _, neg := range signs {
			for _, odd := range signs {
				for _, half := range []int{math.MinInt, -1, 0, 1, math.MaxInt} {
					holdAway(t, m, neg, odd, half, false)
				}
			}
		}
	}
}

// rounded is v rounded to a multiple of the step by what Away tells; v is between two of them.
func rounded(m, v, step int) int {
	size, sign := v, 1
	if v < 0 {
		size, sign = -v, -1
	}
	times := size / step
	if Away(m, v < 0, times%2 == 1, 2*(size%step)-step) {
		times++
	}
	return sign * times * step
}

// TestRounding holds values that are rounded so against what the ways are called for.
func TestRounding(t *testing.T) {
	for _, step := range []int{2, 3, 8, 10} {
		for v := -7 * step; v <= 7*step; v++ {
			if v%step == 0 {
				continue
			}
			low := int(math.Floor(float64(v)/float64(step))) * step
			high := low + step
			in, out := low, high
			if v < 0 {
				in, out = high, low
			}
			even := low
			if low%(2*step) != 0 {
				even = high
			}
			holdRounded(t, v, step, map[int]int{
				api.Ceiling: high, api.Floor: low, api.Up: out, api.Down: in, api.Exact: in,
				api.HalfEven: nearest(v, low, high, even), api.HalfUp: nearest(v, low, high, out), api.HalfDown: nearest(v, low, high, in),
			})
		}
	}
}

// nearest is the nearer one of low and high to v, or tie, if they are as near.
func nearest(v, low, high, tie int) int {
	switch {
	case v-low < high-v:
		return low
	case v-low > high-v:
		return high
	}
	return tie
}

func holdRounded(t *testing.T, v, step int, want map[int]int) {
	t.Helper()
	for m, to := range want {
		if got := rounded(m, v, step); got != to {
			t.Errorf("%d to the step %d by way %d: %d, want %d", v, step, m, got, to)
		}
	}
}

// TestExamples: the chapter's example, and the document's of 2.5 by Exact; each in tenths.
func TestExamples(t *testing.T) {
	for m, want := range map[int]int{api.HalfEven: 20, api.HalfUp: 30, api.HalfDown: 20, api.Exact: 20} {
		if got := rounded(m, 25, 10); got != want {
			t.Errorf("2.5 by way %d: %d tenths, want %d", m, got, want)
		}
	}
}
