package checker

import (
	"slices"

	"planes/api"
	"planes/atmost"
	"planes/logbook"
	"planes/natural"
	"planes/problem"
)

// ledger has the rows that hold so far, by number: that of the first is 1.
type ledger struct {
	vars int
	rows []atmost.Row
}

func newLedger(p problem.Problem) *ledger {
	return &ledger{vars: p.Vars(), rows: slices.Collect(p.Laid())}
}

// take puts down what a cut makes; of the last line it asks that what it makes
// shows the verdict.
func (l *ledger) take(line logbook.Line, shows goal) api.Errno {
	blend, e := l.blend(line)
	if e != api.OK {
		return e
	}
	row, isWhole := blend.Floored()
	switch {
	case line.IsEnd && !(isWhole && shows(row)):
		return api.ErrEnd
	case line.IsEnd:
		return api.OK
	case !isWhole:
		return api.ErrWhole
	}
	l.rows = append(l.rows, row)
	return api.OK
}

// blend adds up the rows that the line names. Were a factor below 0, what
// comes of it would not follow from them.
func (l *ledger) blend(line logbook.Line) (atmost.Blend, api.Errno) {
	sum := atmost.Nothing(l.vars)
	for part := range line.Parts() {
		row, ok := l.find(part.Row)
		switch {
		case !ok:
			return atmost.Blend{}, api.ErrRow
		case part.Factor.Sign() <= 0:
			return atmost.Blend{}, api.ErrFactor
		}
		sum = sum.Plus(row, part.Factor)
	}
	return sum, api.OK
}

func (l *ledger) find(number natural.Natural) (atmost.Row, bool) {
	n, ok := number.Uint64()
	if !ok || n == 0 || n > uint64(len(l.rows)) {
		return atmost.Row{}, false
	}
	return l.rows[n-1], true
}
