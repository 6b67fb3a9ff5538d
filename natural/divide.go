package natural

import (
	"math/bits"
	"slices"
)

// Over divides: how many times divisor goes into n, and what is left over.
// Nought goes into it no time, and all is left over, so that no input panics.
func (n Natural) Over(divisor Natural) (quotient, rest Natural) {
	switch {
	case divisor.IsZero() || n.Compare(divisor) < 0:
		return nil, n
	case len(n) <= 2:
		a, b := n.low64(), divisor.low64()
		return Of(a / b), Of(a % b)
	case len(divisor) == 1:
		quotient = slices.Clone(n)
		left := shortDivide(quotient, divisor[0])
		return trim(quotient), Of(uint64(left))
	}
	return longDivide(n, divisor)
}

// low64 is the value of the two lowest digits.
func (n Natural) low64() uint64 {
	var value uint64
	for i := min(len(n), 2) - 1; i >= 0; i-- {
		value = value<<digitBits | uint64(n[i])
	}
	return value
}

// shortDivide puts the quotient into digits and tells what is left over.
func shortDivide(digits []uint32, divisor uint32) uint32 {
	var left uint64
	for i := len(digits) - 1; i >= 0; i-- {
		left = left<<digitBits | uint64(digits[i])
		digits[i] = uint32(left / uint64(divisor))
		left %= uint64(divisor)
	}
	return uint32(left)
}

// longDivide is the division of school, for a divisor of two digits or more
// that is not above n. Both are first shifted until the divisor's highest bit
// is set: then a digit that is guessed from the highest digits alone is at
// most a little too great.
func longDivide(n, divisor Natural) (quotient, rest Natural) {
	shift := bits.LeadingZeros32(divisor[len(divisor)-1])
	left := shiftUp(n, shift)
	by := trim(shiftUp(divisor, shift))
	quotient = make(Natural, len(n)-len(by)+1)
	for i := len(quotient) - 1; i >= 0; i-- {
		window := left[i : i+len(by)+1]
		digit := guessDigit(window, by)
		if takeTimes(window, by, digit) > 0 {
			digit--
			addInto(window, by)
		}
		quotient[i] = digit
	}
	return trim(quotient), trim(shiftDown(left, shift))
}

// guessDigit tells how often by goes into window, or one too many: by the
// three highest digits of window, which has one more than by, and the two
// highest of by.
func guessDigit(window, by []uint32) uint32 {
	top := len(by)
	high := uint64(window[top])<<digitBits | uint64(window[top-1])
	lead, second := uint64(by[top-1]), uint64(by[top-2])
	guess, left := high/lead, high%lead
	for left < base && (guess >= base || guess*second > left<<digitBits|uint64(window[top-2])) {
		guess--
		left += lead
	}
	return uint32(guess)
}

// shiftUp shifts by less than a digit, into new memory with one digit more.
func shiftUp(digits []uint32, shift int) []uint32 {
	shifted := make([]uint32, len(digits)+1)
	var carry uint64
	for i, digit := range digits {
		carry |= uint64(digit) << shift
		shifted[i] = uint32(carry)
		carry >>= digitBits
	}
	shifted[len(digits)] = uint32(carry)
	return shifted
}

// shiftDown shifts by less than a digit, in place.
func shiftDown(digits []uint32, shift int) []uint32 {
	var above uint64
	for i := len(digits) - 1; i >= 0; i-- {
		above = above<<digitBits | uint64(digits[i])
		digits[i] = uint32(above >> shift)
	}
	return digits
}

// CommonDivisor is the greatest number that divides both; of 0 and another
// it is the other.
func (n Natural) CommonDivisor(other Natural) Natural {
	for len(other) > 0 {
		if len(n) <= 2 && len(other) <= 2 {
			return Of(commonDivisor64(n.low64(), other.low64()))
		}
		_, rest := n.Over(other)
		n, other = other, rest
	}
	return n
}

func commonDivisor64(a, b uint64) uint64 {
	for b > 0 {
		a, b = b, a%b
	}
	return a
}
