// Package corner: corners of what must hold, from the one that comes first in
// the order of points on to those that come later.
package corner

import (
	"iter"
	"slices"

	"planes/atmost"
	"planes/lists"
	"planes/natural"
	"planes/whole"
)

// Numbered is a row that must hold, with the number that a log knows it by.
type Numbered struct {
	atmost.Row
	Number int
}

// Edge leads away from a corner: its row, which the corner leaves no room, is
// given some. For each 1 of that the point loses loss, over the corner's Over.
type Edge struct {
	Numbered
	loss []whole.Whole
}

// Corner is the one point at which some rows have no room: as many as there
// are variables. None of its edges leads to a point that comes earlier in the
// order: so no point that meets these rows does.
//
// All its numbers are over one and the same, the determinant of the rows. That
// makes them whole, and an exchange divides them without a rest: no common
// divisor is ever looked for.
type Corner struct {
	order Order
	over  natural.Natural
	point []whole.Whole
	edges []Edge
}

// First is the corner that comes first of all within bounds: two for each
// variable, which have it by itself, with 1 and with -1.
func First(order Order, bounds iter.Seq[Numbered]) Corner {
	first := Corner{order: order, over: natural.Of(1)}
	for bound := range bounds {
		// A bound with 1 has no room where its variable is Most, one with -1
		// where it is Most turned round: so the row is its own edge.
		edge := Edge{bound, slices.Collect(bound.Factors())}
		if order.Sign(edge.loss) > 0 {
			first.edges = append(first.edges, edge)
		}
	}
	first.point = make([]whole.Whole, len(first.edges))
	for edge := range first.Edges() {
		first.point = first.crossed(first.point, whole.Of(1), edge.loss, edge.Most)
	}
	return first
}

// Edges goes over the edges.
func (c Corner) Edges() iter.Seq[Edge] { return slices.Values(c.edges) }

// Over is what all numbers of the corner are over.
func (c Corner) Over() natural.Natural { return c.over }

// Room is by how much a row is below its Most at the corner, Over times: below
// 0, if the corner breaks it.
func (c Corner) Room(row Numbered) whole.Whole {
	return row.Most.Times(whole.OfNatural(c.over)).Minus(row.At(c.point))
}

// Gains goes over the edges, each with the room that it gives a row, Over
// times.
func (c Corner) Gains(row Numbered) iter.Seq2[Edge, whole.Whole] {
	return c.with(func(edge Edge) whole.Whole { return row.At(edge.loss) })
}

// Losses goes over the edges, each with what the point loses by it of one of
// its ranks, Over times.
func (c Corner) Losses(rank int) iter.Seq2[Edge, whole.Whole] {
	return c.with(func(edge Edge) whole.Whole { return c.order.rank(edge.loss, rank) })
}

func (c Corner) with(number func(Edge) whole.Whole) iter.Seq2[Edge, whole.Whole] {
	return func(yield func(Edge, whole.Whole) bool) {
		for edge := range c.Edges() {
			if !yield(edge, number(edge)) {
				return
			}
		}
	}
}

// Splits goes over the ranks of the point that are not whole, counted from 0
// on. If there is none, the point is whole.
func (c Corner) Splits() iter.Seq[int] {
	return func(yield func(int) bool) {
		at := 0
		for rank := range c.order.Ranks(c.point) {
			if !rank.RestOver(c.over).IsZero() && !yield(at) {
				return
			}
			at++
		}
	}
}

// Ahead tells whether the corner's point comes ahead of that of another.
func (c Corner) Ahead(other Corner) bool {
	step := make([]whole.Whole, 0, len(c.point))
	for to, from := range lists.Pairs(c.point, other.point) {
		step = append(step, to.Times(whole.OfNatural(other.over)).Minus(from.Times(whole.OfNatural(c.over))))
	}
	return c.order.Sign(step) > 0
}

// Point is the corner's point, for one who knows that it is whole.
func (c Corner) Point() []whole.Whole {
	point := make([]whole.Whole, 0, len(c.point))
	for x := range slices.Values(c.point) {
		point = append(point, x.FloorOver(c.over))
	}
	return point
}

// RestsOn tells whether the corner leaves the row of that number no room as
// one of those that make it.
func (c Corner) RestsOn(number int) bool {
	for edge := range c.Edges() {
		if edge.Number == number {
			return true
		}
	}
	return false
}
