// Package atmost: what must hold, as sums that are at most a number.
package atmost

import (
	"iter"
	"slices"

	"planes/lists"
	"planes/natural"
	"planes/whole"
)

// Sum is coefficients times the variables, added up. It is not written into
// once it is made, so that several may share memory.
type Sum struct {
	factors []whole.Whole
}

// SumOf makes a Sum with these coefficients, one for each variable.
func SumOf(factors iter.Seq[whole.Whole]) Sum { return Sum{slices.Collect(factors)} }

// Factors goes over the coefficients, one for each variable.
func (s Sum) Factors() iter.Seq[whole.Whole] { return slices.Values(s.factors) }

// With goes over the coefficients, each with its number of a point, which has
// one for each variable.
func (s Sum) With(point []whole.Whole) iter.Seq2[whole.Whole, whole.Whole] {
	return lists.Pairs(s.factors, point)
}

// At is what the sum comes to at a point.
func (s Sum) At(point []whole.Whole) whole.Whole {
	var sum whole.Whole
	for factor, x := range s.With(point) {
		sum = sum.Plus(factor.Times(x))
	}
	return sum
}

// each goes over what a function makes of the coefficients.
func (s Sum) each(made func(whole.Whole) whole.Whole) iter.Seq[whole.Whole] {
	return func(yield func(whole.Whole) bool) {
		for factor := range s.Factors() {
			if !yield(made(factor)) {
				return
			}
		}
	}
}

// CommonDivisor is the greatest number that divides all coefficients; 0, if
// they are all 0.
func (s Sum) CommonDivisor() natural.Natural {
	var shared natural.Natural
	for factor := range s.Factors() {
		shared = shared.CommonDivisor(factor.Size())
	}
	return shared
}

// Row is a sum that is at most Most.
type Row struct {
	Sum
	Most whole.Whole
}

// Of makes a Row with these coefficients, one for each variable.
func Of(factors iter.Seq[whole.Whole], most whole.Whole) Row {
	return Row{SumOf(factors), most}
}

// Blank is the row that says nothing: 0 is at most 0, for so many variables.
func Blank(count int) Row { return Row{Sum: Sum{make([]whole.Whole, count)}} }

// Turned is the row with all signs turned.
func (r Row) Turned() Row { return Of(r.each(whole.Whole.Turned), r.Most.Turned()) }

// HoldsAt tells whether the sum is at most Most at a point.
func (r Row) HoldsAt(point []whole.Whole) bool { return r.At(point).Compare(r.Most) <= 0 }

// Same tells whether the two have the same coefficients and the same Most.
func (r Row) Same(other Row) bool {
	for factor, with := range lists.Pairs(r.factors, other.factors) {
		if factor.Compare(with) != 0 {
			return false
		}
	}
	return len(r.factors) == len(other.factors) && r.Most.Compare(other.Most) == 0
}

// HoldsNowhere tells whether no point at all can meet the row: it says that 0
// is below 0.
func (r Row) HoldsNowhere() bool {
	for factor := range r.Factors() {
		if factor.Sign() != 0 {
			return false
		}
	}
	return r.Most.Sign() < 0
}

// Plus is the row with so many times another added to it. It follows from the
// two only if times is not below 0.
func (r Row) Plus(other Row, times whole.Whole) Row {
	more := Row{Most: r.Most.Plus(other.Most.Times(times))}
	for factor, with := range lists.Pairs(r.factors, other.factors) {
		more.factors = append(more.factors, factor.Plus(with.Times(times)))
	}
	return more
}

// Over divides by a number that divides all coefficients. Where the variables
// are whole, so is the sum: what it is at most is floored.
func (r Row) Over(divisor natural.Natural) Row {
	divided := func(number whole.Whole) whole.Whole { return number.FloorOver(divisor) }
	return Of(r.each(divided), divided(r.Most))
}
