package problem

import (
	"iter"

	"planes/atmost"
	"planes/whole"
)

// Laid goes over all that must hold, each as a sum that is at most a number:
// the first of them has the number 1. A point that meets them all meets the
// problem.
func (p Problem) Laid() iter.Seq[atmost.Row] {
	return func(yield func(atmost.Row) bool) {
		for row := range p.Rows() {
			if !handOn(row.laid(), yield) {
				return
			}
		}
		at := 0
		for column := range p.Columns() {
			if !handOn(column.laid(p.oneAt(at)), yield) {
				return
			}
			at++
		}
	}
}

// handOn is false, if it was left early.
func handOn[E any](entries iter.Seq[E], yield func(E) bool) bool {
	for entry := range entries {
		if !yield(entry) {
			return false
		}
	}
	return true
}

func (r Row) laid() iter.Seq[atmost.Row] {
	return func(yield func(atmost.Row) bool) {
		asItStands := atmost.Of(r.Factors(), r.Bound)
		if r.Relation != AtLeast && !yield(asItStands) {
			return
		}
		if r.Relation != AtMost {
			yield(asItStands.Turned())
		}
	}
}

// laid takes the coefficients that make the variable by itself.
func (c Column) laid(alone iter.Seq[whole.Whole]) iter.Seq[atmost.Row] {
	return func(yield func(atmost.Row) bool) {
		if yield(atmost.Of(alone, c.High)) {
			yield(atmost.Of(alone, c.Low).Turned())
		}
	}
}

// oneAt goes over coefficients that are all 0 but for one, which is 1.
func (p Problem) oneAt(place int) iter.Seq[whole.Whole] {
	return func(yield func(whole.Whole) bool) {
		for at := range p.Vars() {
			factor := whole.Of(0)
			if at == place {
				factor = whole.Of(1)
			}
			if !yield(factor) {
				return
			}
		}
	}
}
