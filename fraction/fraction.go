// Package fraction: rational numbers, on whole numbers.
package fraction

import (
	"strings"

	"planes/natural"
	"planes/whole"
)

// Fraction is a rational number in lowest terms; the zero Fraction is 0. A
// lower part of 1 is left empty: so a whole number is known at sight and
// reckoned with cheaply, and each number has one form only.
type Fraction struct {
	upper whole.Whole
	lower natural.Natural
}

// Of makes a Fraction of a whole number.
func Of(w whole.Whole) Fraction { return Fraction{upper: w} }

// reduced makes upper over lower, which is not 0, in lowest terms.
func reduced(upper whole.Whole, lower natural.Natural) Fraction {
	if lower.IsOne() {
		return Of(upper)
	}
	shared := upper.Size().CommonDivisor(lower)
	if !shared.IsOne() {
		// Nothing is left over here, so the floor is the quotient.
		upper = upper.FloorOver(shared)
		lower, _ = lower.Over(shared)
	}
	return lowest(upper, lower)
}

// lowest is for those who know that upper and lower have no divisor in common.
func lowest(upper whole.Whole, lower natural.Natural) Fraction {
	if lower.IsOne() {
		return Of(upper)
	}
	return Fraction{upper: upper, lower: lower}
}

// Parse reads a number's text, of at most mostDigits digits on either side of
// the `/`; false, if the text is no number's.
func Parse(text string, mostDigits int) (Fraction, bool) {
	above, beneath, parted := strings.Cut(text, "/")
	upper, ok := whole.Parse(above, mostDigits)
	if !ok {
		return Fraction{}, false
	}
	if !parted {
		return Of(upper), true
	}
	lower, ok := natural.Parse(beneath, mostDigits)
	if !ok || lower.IsZero() {
		return Fraction{}, false
	}
	return reduced(upper, lower), true
}

// String is the number as it is written.
func (f Fraction) String() string {
	if f.IsWhole() {
		return f.upper.String()
	}
	return f.upper.String() + "/" + f.lower.String()
}

// IsWhole tells whether it is a whole number.
func (f Fraction) IsWhole() bool { return f.lower.IsZero() }

// Sign is -1, 0 or 1, as the number is below, equal to or above 0.
func (f Fraction) Sign() int { return f.upper.Sign() }

// Turned is the number with its sign turned.
func (f Fraction) Turned() Fraction {
	return Fraction{upper: f.upper.Turned(), lower: f.lower}
}

func (f Fraction) divisor() natural.Natural {
	if f.IsWhole() {
		return natural.Of(1)
	}
	return f.lower
}

// across is the upper part, as it is when the lower part is that of both
// multiplied.
func (f Fraction) across(other Fraction) whole.Whole {
	if other.IsWhole() {
		return f.upper
	}
	return f.upper.Times(whole.OfNatural(other.lower))
}

// Compare is below 0, 0 or above 0, as f is less than, equal to or greater
// than other.
func (f Fraction) Compare(other Fraction) int {
	return f.across(other).Compare(other.across(f))
}

// Plus adds. Common divisors are looked for in the lower parts alone, and in
// what they share: a long sum of which each term is short stays cheap.
func (f Fraction) Plus(other Fraction) Fraction {
	shared := f.divisor().CommonDivisor(other.divisor())
	if shared.IsOne() {
		return lowest(f.across(other).Plus(other.across(f)), f.divisor().Times(other.divisor()))
	}
	rest, _ := f.lower.Over(shared)
	otherRest, _ := other.lower.Over(shared)
	upper := f.upper.Times(whole.OfNatural(otherRest)).Plus(other.upper.Times(whole.OfNatural(rest)))
	sum := reduced(upper, shared)
	return lowest(sum.upper, sum.divisor().Times(rest).Times(otherRest))
}

// Minus takes other from f.
func (f Fraction) Minus(other Fraction) Fraction { return f.Plus(other.Turned()) }

// Times multiplies. Each upper part has nothing in common with its own lower
// part, so only those across are held against each other.
func (f Fraction) Times(other Fraction) Fraction {
	one, two := reduced(f.upper, other.divisor()), reduced(other.upper, f.divisor())
	return lowest(one.upper.Times(two.upper), one.divisor().Times(two.divisor()))
}

// Over divides by other, which is not 0.
func (f Fraction) Over(other Fraction) Fraction {
	upper := f.across(other)
	if other.Sign() < 0 {
		upper = upper.Turned()
	}
	return reduced(upper, f.divisor().Times(other.upper.Size()))
}

// Floor is the greatest whole number not above f.
func (f Fraction) Floor() whole.Whole {
	if f.IsWhole() {
		return f.upper
	}
	return f.upper.FloorOver(f.lower)
}
