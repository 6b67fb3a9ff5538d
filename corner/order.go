package corner

import (
	"iter"

	"planes/atmost"
	"planes/whole"
)

// Order is in which order points come: by their values, and of equal ones by
// their variables.
type Order struct {
	aims atmost.Sum
}

// OrderOf makes the Order of what is to be greatest, from its coefficients.
func OrderOf(aims iter.Seq[whole.Whole]) Order { return Order{atmost.SumOf(aims)} }

// Value is the value of a point.
func (o Order) Value(point []whole.Whole) whole.Whole { return o.aims.At(point) }

// Ranks goes over the numbers by which a point comes first: the value, then
// one for each variable. Of two points the one whose number is greater comes
// first, where these numbers first differ. They are sums of the variables, so
// that a step between two points has ranks too.
func (o Order) Ranks(point []whole.Whole) iter.Seq[whole.Whole] {
	return func(yield func(whole.Whole) bool) {
		if !yield(o.Value(point)) {
			return
		}
		for aim, rank := range o.aims.With(point) {
			if aim.Sign() <= 0 {
				rank = rank.Turned()
			}
			if !yield(rank) {
				return
			}
		}
	}
}

// rank is one of the ranks, counted from 0 on.
func (o Order) rank(point []whole.Whole, wanted int) whole.Whole {
	for rank := range o.Ranks(point) {
		if wanted == 0 {
			return rank
		}
		wanted--
	}
	return whole.Of(0)
}

// Sign is above 0, if a point that takes the step comes earlier by it; below
// 0, if it comes later; 0, if the step leads nowhere.
func (o Order) Sign(step []whole.Whole) int {
	for rank := range o.Ranks(step) {
		if rank.Sign() != 0 {
			return rank.Sign()
		}
	}
	return 0
}
