// Package mask is layer 1: sets of the numbers from 0 to 63 (see shared/doc/01-mask.md).
package mask

import (
	"iter"
	"math/bits"
)

// Most is how many numbers there are.
const Most = 64

// Mask is a set of numbers from 0 to 63: the bit of worth 2^i says whether i is in it.
type Mask uint64

// Of: that of these numbers.
func Of(l ...int) Mask {
	var none Mask
	return none.With(l...)
}

// Full: that of the numbers below n.
func Full(n int) Mask {
	if n < 1 {
		return 0
	}
	if n >= Most {
		return ^Mask(0)
	}
	return 1<<n - 1
}

// Has: is a number in it?
func (m Mask) Has(i int) bool {
	return m&bit(i) != 0
}

// With: with these numbers.
func (m Mask) With(l ...int) Mask {
	for _, i := range l {
		m |= bit(i)
	}
	return m
}

// Without: without them.
func (m Mask) Without(l ...int) Mask {
	return m &^ Of(l...)
}

// Len: how many.
func (m Mask) Len() int {
	return bits.OnesCount64(uint64(m))
}

// List: rising.
func (m Mask) List() []int {
	l := make([]int, 0, m.Len())
	for i := range m.numbers() {
		l = append(l, i)
	}
	return l
}

// Next: the least one from a number on.
func (m Mask) Next(from int) (int, bool) {
	return m.first(func(i int) bool { return i >= from })
}

// Around: so, or the least one.
func (m Mask) Around(from int) (int, bool) {
	if i, is := m.Next(from); is {
		return i, true
	}
	return m.Next(0)
}

// Turn: each less n.
func (m Mask) Turn(n int) Mask {
	// The least int is its own negative; it is a multiple of 64, so that it turns nothing either way.
	return Mask(bits.RotateLeft64(uint64(m), -n))
}

// bit has no bit for a number that no mask can hold, so that such numbers are passed over everywhere.
func bit(i int) Mask {
	if i < 0 || i >= Most {
		return 0
	}
	return 1 << i
}

// numbers gives those that are in the mask, rising.
func (m Mask) numbers() iter.Seq[int] {
	return func(yield func(int) bool) {
		for rest := uint64(m); rest != 0; rest &= rest - 1 {
			if !yield(bits.TrailingZeros64(rest)) {
				return
			}
		}
	}
}

// first is the least number in the mask that is such, and whether there is one.
func (m Mask) first(such func(int) bool) (int, bool) {
	for i := range m.numbers() {
		if such(i) {
			return i, true
		}
	}
	return 0, false
}
