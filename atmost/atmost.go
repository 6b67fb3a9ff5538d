// Package atmost: what must hold, as sums that are at most a number.
package atmost

import (
	"iter"
	"slices"

	"planes/whole"
)

// Row is a sum of coefficients times the variables, which is at most Most. It
// is not written into once it is made, so that several may share memory.
type Row struct {
	Most    whole.Whole
	factors []whole.Whole
}

// Of makes a Row with these coefficients, one for each variable.
func Of(factors iter.Seq[whole.Whole], most whole.Whole) Row {
	return Row{Most: most, factors: slices.Collect(factors)}
}

// Factors goes over the coefficients, one for each variable.
func (r Row) Factors() iter.Seq[whole.Whole] { return slices.Values(r.factors) }

// Turned is the row with all signs turned.
func (r Row) Turned() Row { return Of(r.turnedFactors(), r.Most.Turned()) }

func (r Row) turnedFactors() iter.Seq[whole.Whole] {
	return func(yield func(whole.Whole) bool) {
		for factor := range r.Factors() {
			if !yield(factor.Turned()) {
				return
			}
		}
	}
}

// At is what the sum comes to at a point, which has a number for each
// variable.
func (r Row) At(point []whole.Whole) whole.Whole {
	var sum whole.Whole
	for factor, x := range pairs(r.factors, point) {
		sum = sum.Plus(factor.Times(x))
	}
	return sum
}

// HoldsAt tells whether the sum is at most Most at a point.
func (r Row) HoldsAt(point []whole.Whole) bool { return r.At(point).Compare(r.Most) <= 0 }

// Same tells whether the two have the same coefficients and the same Most.
func (r Row) Same(other Row) bool {
	for factor, with := range pairs(r.factors, other.factors) {
		if factor.Compare(with) != 0 {
			return false
		}
	}
	return len(r.factors) == len(other.factors) && r.Most.Compare(other.Most) == 0
}

// HoldsNowhere tells whether no point at all can meet the row: it says that 0
// is below 0.
func (r Row) HoldsNowhere() bool {
	for factor := range r.Factors() {
		if factor.Sign() != 0 {
			return false
		}
	}
	return r.Most.Sign() < 0
}

// pairs goes over two lists side by side, as far as both go.
func pairs[A, B any](first []A, second []B) iter.Seq2[A, B] {
	return func(yield func(A, B) bool) {
		for i := range min(len(first), len(second)) {
			if !yield(first[i], second[i]) {
				return
			}
		}
	}
}
