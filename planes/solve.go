package planes

import (
	"planes/api"
	"planes/problem"
	"planes/solver"
)

func solve(text string, cuts, pivots int) (api.Result, api.Errno, int) {
	read, e, line := problem.Read(text)
	if e != api.OK {
		return api.Result{}, e, line
	}
	if cuts < 0 || pivots < 0 {
		return api.Result{}, api.ErrLimit, 0
	}
	return solver.Solve(read, cuts, pivots), api.OK, 0
}
