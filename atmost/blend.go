package atmost

import (
	"slices"

	"planes/fraction"
	"planes/lists"
	"planes/whole"
)

// Blend is what rows make that are added up, each times a factor: a sum of
// coefficients times the variables that is at most a number, none of them
// whole for certain.
type Blend struct {
	most    fraction.Fraction
	factors []fraction.Fraction
}

// Nothing is the blend of no row at all, for so many variables.
func Nothing(count int) Blend {
	return Blend{factors: make([]fraction.Fraction, count)}
}

// Plus is the blend with one more row in it. It follows from the rows only if
// times is not below 0.
func (b Blend) Plus(row Row, times fraction.Fraction) Blend {
	more := Blend{most: plusTimes(b.most, row.Most, times)}
	for sum, factor := range lists.Pairs(b.factors, row.factors) {
		more.factors = append(more.factors, plusTimes(sum, factor, times))
	}
	return more
}

func plusTimes(sum fraction.Fraction, number whole.Whole, times fraction.Fraction) fraction.Fraction {
	return sum.Plus(times.Times(fraction.Of(number)))
}

// Floored is the row that follows where the variables are whole; false, if a
// coefficient is not whole, for then the sum need not be whole either.
func (b Blend) Floored() (Row, bool) {
	row := Row{Most: b.most.Floor()}
	for factor := range slices.Values(b.factors) {
		if !factor.IsWhole() {
			return Row{}, false
		}
		row.factors = append(row.factors, factor.Floor())
	}
	return row, true
}
