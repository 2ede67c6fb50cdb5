// Package nat is layer 1: numbers without an end. See shared/doc/01-nat.md.
package nat

import (
	"cmp"

	"figurehead/api"
)

// Good tells whether each limb is below Base.
func Good(a []uint32) bool {
	for _, limb := range a {
		if limb >= api.Base {
			return false
		}
	}
	return true
}

// Trim answers a without noughts at its end.
func Trim(a []uint32) []uint32 {
	trimmed := make([]uint32, size(a))
	copy(trimmed, a)
	return trimmed
}

// Cmp answers -1, 0 or 1, as a is less than b, as much, or more.
func Cmp(a, b []uint32) int {
	n := size(a)
	if c := cmp.Compare(n, size(b)); c != 0 {
		return c
	}
	for i := n - 1; i >= 0; i-- {
		if c := cmp.Compare(a[i], b[i]); c != 0 {
			return c
		}
	}
	return 0
}

// Add answers the sum.
func Add(a, b []uint32) []uint32 {
	n := max(size(a), size(b))
	sum := make([]uint32, n+1)
	carry := uint32(0)
	for i := range n {
		// Two limbs and a carry are less than 2 Base, which 32 bits hold.
		limb := limbAt(a, i) + limbAt(b, i) + carry
		carry = 0
		if limb >= api.Base {
			limb -= api.Base
			carry = 1
		}
		sum[i] = limb
	}
	sum[n] = carry
	return Trim(sum)
}

// Sub answers a less b, and true; nothing and false, if b is more than a.
func Sub(a, b []uint32) ([]uint32, bool) {
	if Cmp(a, b) < 0 {
		return nil, false
	}
	n := size(a)
	diff := make([]uint32, n)
	borrow := uint32(0)
	for i := range n {
		// Base is lent ahead of the subtraction: nothing here goes below 0.
		limb := api.Base + a[i] - limbAt(b, i) - borrow
		borrow = 1
		if limb >= api.Base {
			limb -= api.Base
			borrow = 0
		}
		diff[i] = limb
	}
	return Trim(diff), true
}

// size tells how many limbs count: those without the noughts at the end.
func size(a []uint32) int {
	n := len(a)
	for n > 0 && a[n-1] == 0 {
		n--
	}
	return n
}

// limbAt answers limb i, and 0 behind the last one, so that a shorter number needs no copy as long as the other one.
func limbAt(a []uint32, i int) uint32 {
	if i >= len(a) {
		return 0
	}
	return a[i]
}
