package solver

import (
	"slices"
	"strings"

	"planes/api"
	"planes/corner"
	"planes/logbook"
	"planes/whole"
)

// greatest is for a corner that breaks no row and is whole. The value is so
// much less for the room of each of the corner's rows, and never more: these
// numbers, times the rows, make what is to be greatest.
func (s *search) greatest() api.Result {
	end := line{over: s.at.Over()}
	for edge, loss := range s.at.Losses(0) {
		end.take(edge.Number, loss)
	}
	point := s.at.Point()
	v := api.Verdict{Kind: api.Greatest, Value: s.order.Value(point).String()}
	for x := range slices.Values(point) {
		v.Point = append(v.Point, x.String())
	}
	return s.ended(v, end)
}

// none is for a row that the corner breaks and none of its edges helps: the
// row, with so many times those of the corner as cost it room, leaves nothing
// but a number below 0.
func (s *search) none(row corner.Numbered) api.Result {
	end := line{over: s.at.Over()}
	end.take(row.Number, whole.OfNatural(end.over))
	for edge, gain := range s.at.Gains(row) {
		end.take(edge.Number, gain.Turned())
	}
	return s.ended(api.Verdict{Kind: api.None}, end)
}

func (s *search) ended(v api.Verdict, end line) api.Result {
	var log strings.Builder
	for made := range slices.Values(s.cuts) {
		log.WriteString(logbook.Cut(made.written()))
	}
	log.WriteString(logbook.End(end.written()))
	return api.Result{Verdict: v, Cuts: len(s.cuts), Log: log.String()}
}

func (s *search) limit() api.Result {
	return api.Result{Verdict: api.Verdict{Kind: api.Limit}, Cuts: len(s.cuts)}
}
