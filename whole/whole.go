// Package whole: whole numbers with signs, on naturals.
package whole

import (
	"strings"

	"planes/natural"
)

// Whole is a whole number; the zero Whole is 0. The number 0 is never marked
// as below 0, so that each number has one form only.
type Whole struct {
	below bool
	size  natural.Natural
}

// Of makes a Whole of a machine's number.
func Of(n int64) Whole {
	if n < 0 {
		// The least int64 wraps round to itself, and so to the right size.
		return signed(true, natural.Of(uint64(-n)))
	}
	return signed(false, natural.Of(uint64(n)))
}

// OfNatural makes a Whole of a natural.
func OfNatural(n natural.Natural) Whole { return signed(false, n) }

func signed(below bool, size natural.Natural) Whole {
	return Whole{below: below && !size.IsZero(), size: size}
}

// Parse reads a number without fraction, of at most mostDigits digits; false,
// if the text is no such number.
func Parse(text string, mostDigits int) (Whole, bool) {
	digits, below := strings.CutPrefix(text, "-")
	size, ok := natural.Parse(digits, mostDigits)
	return signed(below, size), ok
}

// String is the number as it is written.
func (w Whole) String() string {
	if w.below {
		return "-" + w.size.String()
	}
	return w.size.String()
}

// Size is the number without its sign.
func (w Whole) Size() natural.Natural { return w.size }

// Sign is -1, 0 or 1, as the number is below, equal to or above 0.
func (w Whole) Sign() int {
	switch {
	case w.below:
		return -1
	case w.size.IsZero():
		return 0
	}
	return 1
}

// Turned is the number with its sign turned.
func (w Whole) Turned() Whole { return signed(!w.below, w.size) }

// Compare is below 0, 0 or above 0, as w is less than, equal to or greater
// than other.
func (w Whole) Compare(other Whole) int {
	switch {
	case w.below != other.below:
		return w.Sign() - other.Sign()
	case w.below:
		return other.size.Compare(w.size)
	}
	return w.size.Compare(other.size)
}

// Plus adds.
func (w Whole) Plus(other Whole) Whole {
	if w.below == other.below {
		return signed(w.below, w.size.Plus(other.size))
	}
	below := w.below
	if w.size.Compare(other.size) < 0 {
		below = other.below
	}
	return signed(below, w.size.Apart(other.size))
}

// Minus takes other from w.
func (w Whole) Minus(other Whole) Whole { return w.Plus(other.Turned()) }

// Times multiplies.
func (w Whole) Times(other Whole) Whole {
	return signed(w.below != other.below, w.size.Times(other.size))
}

// FloorOver is the greatest whole not above w divided by divisor, which is
// not 0.
func (w Whole) FloorOver(divisor natural.Natural) Whole {
	quotient, rest := w.size.Over(divisor)
	if w.below && !rest.IsZero() {
		quotient = quotient.Plus(natural.Of(1))
	}
	return signed(w.below, quotient)
}

// RestOver is what FloorOver leaves over: 0 or above, and below divisor, which
// is not 0.
func (w Whole) RestOver(divisor natural.Natural) natural.Natural {
	_, rest := w.size.Over(divisor)
	if w.below && !rest.IsZero() {
		return divisor.Apart(rest)
	}
	return rest
}
