// Package natural: naturals of any length, as lists of digits of 32 bits.
package natural

import (
	"cmp"
	"slices"
)

const (
	digitBits = 32
	base      = 1 << digitBits
)

// Natural is 0 or above: its digits to the base 2^32, the least first, the
// last one never 0. It is not written into once it is made, so that several
// may share memory.
type Natural []uint32

// Of makes a Natural of a machine's number.
func Of(n uint64) Natural {
	return trim(Natural{uint32(n), uint32(n >> digitBits)})
}

func trim(digits Natural) Natural {
	for len(digits) > 0 && digits[len(digits)-1] == 0 {
		digits = digits[:len(digits)-1]
	}
	return digits
}

// Uint64 is the number as a machine's; false, if it is too great for that.
func (n Natural) Uint64() (uint64, bool) {
	if len(n) > 2 {
		return 0, false
	}
	return n.low64(), true
}

// IsZero tells whether it is 0.
func (n Natural) IsZero() bool { return len(n) == 0 }

// IsOne tells whether it is 1.
func (n Natural) IsOne() bool { return len(n) == 1 && n[0] == 1 }

// Compare is below 0, 0 or above 0, as n is less than, equal to or greater
// than other.
func (n Natural) Compare(other Natural) int {
	if len(n) != len(other) {
		return cmp.Compare(len(n), len(other))
	}
	for i := len(n) - 1; i >= 0; i-- {
		if n[i] != other[i] {
			return cmp.Compare(n[i], other[i])
		}
	}
	return 0
}

// Plus adds.
func (n Natural) Plus(other Natural) Natural {
	long, short := n, other
	if len(long) < len(short) {
		long, short = short, long
	}
	sum := make(Natural, len(long)+1)
	copy(sum, long)
	addInto(sum, short)
	return trim(sum)
}

// addInto adds the digits of more to those of sum; what is carried out of
// sum's last digit is lost.
func addInto(sum, more []uint32) {
	var carry uint64
	for i := range sum {
		if i >= len(more) && carry == 0 {
			return
		}
		carry += uint64(sum[i])
		if i < len(more) {
			carry += uint64(more[i])
		}
		sum[i] = uint32(carry)
		carry >>= digitBits
	}
}

// Apart is by how much the greater of the two is above the lesser.
func (n Natural) Apart(other Natural) Natural {
	greater, lesser := n, other
	if n.Compare(other) < 0 {
		greater, lesser = other, n
	}
	gap := slices.Clone(greater)
	takeTimes(gap, lesser, 1)
	return trim(gap)
}

// takeTimes takes factor times less from the digits of rest, and tells what
// it had to borrow from beyond the last of them.
func takeTimes(rest, less []uint32, factor uint32) (borrowed uint64) {
	var carry, borrow uint64
	for i := range rest {
		if i >= len(less) && carry == 0 && borrow == 0 {
			return 0
		}
		if i < len(less) {
			carry += uint64(factor) * uint64(less[i])
		}
		gap := uint64(rest[i]) - uint64(uint32(carry)) - borrow
		rest[i] = uint32(gap)
		borrow = gap >> 63
		carry >>= digitBits
	}
	return carry + borrow
}

// Times multiplies.
func (n Natural) Times(other Natural) Natural {
	if n.IsZero() || other.IsZero() {
		return nil
	}
	product := make(Natural, len(n)+len(other))
	for i, digit := range n {
		var carry uint64
		for j, with := range other {
			carry += uint64(digit)*uint64(with) + uint64(product[i+j])
			product[i+j] = uint32(carry)
			carry >>= digitBits
		}
		product[i+len(other)] = uint32(carry)
	}
	return trim(product)
}
