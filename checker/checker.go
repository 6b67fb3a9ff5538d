// Package checker: whether a log shows a verdict. It knows nothing of how the
// cuts were found.
package checker

import (
	"planes/api"
	"planes/logbook"
	"planes/problem"
)

// Check holds a verdict and its log against a problem: with an error of a
// line, the line's number.
func Check(p problem.Problem, v api.Verdict, log string) (api.Errno, int) {
	shows, e := readVerdict(p, v)
	if e != api.OK {
		return e, 0
	}
	if len(log) > api.MaxLog {
		return api.ErrLong, 0
	}
	return checkLines(newLedger(p), shows, log)
}

func checkLines(l *ledger, shows goal, log string) (api.Errno, int) {
	for line, ok := range logbook.Of(log) {
		if !ok {
			return api.ErrLine, line.Number
		}
		if e := l.take(line, shows); e != api.OK {
			return e, line.Number
		}
	}
	return api.OK, 0
}
