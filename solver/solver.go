// Package solver: greatest points, by cutting planes.
package solver

import (
	"planes/api"
	"planes/problem"
)

// Solve finds the point of a problem, or that there is none, with no more
// cuts, and no more exchanges from one of them to the next, than are given,
// neither below 0.
//
// The corner goes from the one that comes first in the order of points on to
// later ones, and no point that meets the problem comes ahead of it. Where it
// breaks no row but is not whole, take its ranks up to the first that is not,
// that one floored, and behind them the greatest that there may be. The cut of
// that rank leads on to a corner which does not come ahead of this list, and
// the deepest cut leads no less far. So no list comes twice, and there are no
// more cuts than lists: B of P7. Nor does a corner come twice between two cuts,
// and of few rows (see letGo) there are few corners.
func Solve(p problem.Problem, cuts, pivots int) api.Result {
	s := begin(p)
	for {
		if found, done := s.settle(pivots); done {
			return found
		}
		next, split := s.deepest()
		switch {
		case !split:
			return s.greatest()
		case len(s.cuts) >= min(cuts, api.MaxCuts):
			return s.limit()
		}
		s.add(next)
	}
}
