package solver

import (
	"planes/atmost"
	"planes/corner"
	"planes/whole"
)

// cut is a row that the corner breaks and each whole point keeps, with the line
// that makes it, and the corner to which its exchange leads.
type cut struct {
	row  corner.Numbered
	line line
	next corner.Corner
}

// deepest is, of the cuts of all ranks that are not whole, the one that leads
// to the last corner; false, if all are whole.
func (s *search) deepest() (cut, bool) {
	var best cut
	found := false
	for rank := range s.at.Splits() {
		c := s.cutOf(rank)
		if !found || best.next.Ahead(c.next) {
			best, found = c, true
		}
	}
	return best, found
}

// cutOf cuts off a rank that is not whole. The rank is less by so much for the
// room of each of the corner's rows; of these numbers only what is above their
// floors is taken, times the rows. That differs from the rank by rows taken a
// whole number of times: so its coefficients are whole, as those of the rank
// are, and what it makes at the corner is not, as the rank there is not.
func (s *search) cutOf(rank int) cut {
	made, sum := line{over: s.at.Over()}, atmost.Blank(s.vars)
	for edge, loss := range s.at.Losses(rank) {
		times := whole.OfNatural(loss.RestOver(made.over))
		made.take(edge.Number, times)
		sum = sum.Plus(edge.Row, times)
	}
	row := sum.Over(made.over)
	// Divided by what its coefficients share, it is floored deeper.
	shared := row.CommonDivisor()
	made.over = made.over.Times(shared)
	c := cut{line: made, row: corner.Numbered{Row: row.Over(shared), Number: s.given + len(s.cuts) + 1}}
	// There is always an exchange: what is above a floor costs no room.
	c.next, _ = s.at.Exchange(c.row)
	return c
}
