package checker

import (
	"planes/api"
	"planes/atmost"
	"planes/problem"
	"planes/whole"
)

// mostDigits is the bound of a whole number in a verdict.
const mostDigits = 100

// goal tells whether a row shows a verdict.
type goal func(row atmost.Row) bool

// readVerdict tells what the last line must make to show the verdict.
func readVerdict(p problem.Problem, v api.Verdict) (goal, api.Errno) {
	switch v.Kind {
	case api.Greatest:
		return readGreatest(p, v)
	case api.None:
		return atmost.Row.HoldsNowhere, api.OK
	}
	return nil, api.ErrVerdict
}

func readGreatest(p problem.Problem, v api.Verdict) (goal, api.Errno) {
	point, isPoint := readPoint(v.Point, p.Vars())
	value, isValue := whole.Parse(v.Value, mostDigits)
	if !isPoint || !isValue {
		return nil, api.ErrVerdict
	}
	noGreater := atmost.Of(p.Aims(), value)
	if !meets(point, p) || noGreater.At(point).Compare(value) != 0 {
		return nil, api.ErrPoint
	}
	return noGreater.Same, api.OK
}

func readPoint(texts []string, count int) ([]whole.Whole, bool) {
	if len(texts) != count {
		return nil, false
	}
	point := make([]whole.Whole, 0, count)
	for _, text := range texts {
		x, ok := whole.Parse(text, mostDigits)
		if !ok {
			return nil, false
		}
		point = append(point, x)
	}
	return point, true
}

func meets(point []whole.Whole, p problem.Problem) bool {
	for row := range p.Laid() {
		if !row.HoldsAt(point) {
			return false
		}
	}
	return true
}
