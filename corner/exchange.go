package corner

import (
	"planes/lists"
	"planes/whole"
)

// Exchange leads on to the corner at which a row, which this one breaks, has no
// room in the place of one that had none. It comes later in the order, but of
// those that can be had by one exchange it is the one from which no edge leads
// to an earlier point. False, if no edge gives the row any room: then the row
// can't hold where those of the corner do.
func (c Corner) Exchange(row Numbered) (Corner, bool) {
	out, pivot, found := c.leaving(row)
	if !found {
		return Corner{}, false
	}
	next := Corner{order: c.order, over: pivot.Size()}
	next.point = c.crossed(c.point, pivot, out.loss, c.Room(row))
	for edge, gain := range c.Gains(row) {
		if edge.Number == out.Number {
			edge.Numbered = row
		} else {
			edge.loss = c.crossed(edge.loss, pivot, out.loss, gain.Turned())
		}
		next.edges = append(next.edges, edge)
	}
	return next, true
}

// leaving is the edge whose row must be given room, and how much of it the
// other row gains by that: of those by which it gains any, the edge that costs
// the point least of its place in the order.
func (c Corner) leaving(row Numbered) (out Edge, pivot whole.Whole, found bool) {
	for edge, gain := range c.Gains(row) {
		if gain.Sign() <= 0 {
			continue
		}
		if !found || c.order.Sign(c.crossed(edge.loss, pivot, out.loss, gain.Turned())) < 0 {
			out, pivot, found = edge, gain, true
		}
	}
	return out, pivot, found
}

// crossed is times of one list and otherTimes of the other, added up and
// divided by Over, which in an exchange leaves no rest.
func (c Corner) crossed(list []whole.Whole, times whole.Whole, other []whole.Whole, otherTimes whole.Whole) []whole.Whole {
	sums := make([]whole.Whole, 0, len(list))
	for one, two := range lists.Pairs(list, other) {
		sums = append(sums, one.Times(times).Plus(two.Times(otherTimes)).FloorOver(c.over))
	}
	return sums
}
