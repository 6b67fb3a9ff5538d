package solver

import (
	"iter"
	"slices"

	"planes/fraction"
	"planes/logbook"
	"planes/natural"
	"planes/whole"
)

// line is a line of the log as a search keeps it: its factors are all over the
// same number. Only when the log is written are they put in lowest terms: a
// search that ends at a limit writes none.
type line struct {
	over  natural.Natural
	parts []part
}

type part struct {
	row   int
	times whole.Whole
}

// take adds a part; a row that is taken no time is left out.
func (l *line) take(row int, times whole.Whole) {
	if times.Sign() != 0 {
		l.parts = append(l.parts, part{row, times})
	}
}

// written goes over the parts as a log has them.
func (l line) written() iter.Seq[logbook.Part] {
	return func(yield func(logbook.Part) bool) {
		over := fraction.Of(whole.OfNatural(l.over))
		for part := range slices.Values(l.parts) {
			row, factor := natural.Of(uint64(part.row)), fraction.Of(part.times).Over(over)
			if !yield(logbook.Part{Row: row, Factor: factor}) {
				return
			}
		}
	}
}
