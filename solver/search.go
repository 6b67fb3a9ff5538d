package solver

import (
	"slices"

	"planes/api"
	"planes/corner"
	"planes/problem"
)

// search is how far a search has come: the corner, the rows that it is held
// against, and the lines of all cuts.
type search struct {
	order corner.Order
	vars  int
	given int // how many rows are the problem's own
	rows  []corner.Numbered
	at    corner.Corner
	cuts  []line
}

func begin(p problem.Problem) *search {
	s := &search{order: corner.OrderOf(p.Aims()), vars: p.Vars()}
	for row := range p.Laid() {
		s.given++
		s.rows = append(s.rows, corner.Numbered{Row: row, Number: s.given})
	}
	// What must hold ends with the variables' bounds, two for each.
	s.at = corner.First(s.order, slices.Values(s.rows[s.given-2*s.vars:]))
	return s
}

// settle goes on to the next corner that breaks no row. It tells what was
// found, if that ends the search.
func (s *search) settle(pivots int) (api.Result, bool) {
	for exchanges := 0; ; exchanges++ {
		row, broken := s.firstBroken()
		if !broken {
			return api.Result{}, false
		}
		next, ok := s.at.Exchange(row)
		switch {
		case !ok:
			return s.none(row), true
		case exchanges == pivots:
			return s.limit(), true
		}
		s.at = next
	}
}

func (s *search) firstBroken() (corner.Numbered, bool) {
	for row := range slices.Values(s.rows) {
		if s.at.Room(row).Sign() < 0 {
			return row, true
		}
	}
	return corner.Numbered{}, false
}

// add takes a cut up.
func (s *search) add(c cut) {
	s.letGo()
	s.cuts = append(s.cuts, c.line)
	s.rows = append(s.rows, c.row)
}

// letGo drops the cuts on which the corner does not rest. They are no loss to
// what Solve says of cuts, for the corner never goes back. And so there are at
// most 25 rows: 20 of the problem, 4 that the corner rests on, and the next cut.
// What an exchange goes through are then corners of a body of 21 dimensions and
// 25 sides, or 26 with the one at infinity, of which there are at most 6006:
// that keeps what P7 says of pivots.
func (s *search) letGo() {
	s.rows = slices.DeleteFunc(s.rows, func(row corner.Numbered) bool {
		return row.Number > s.given && !s.at.RestsOn(row.Number)
	})
}
