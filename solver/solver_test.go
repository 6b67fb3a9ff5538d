package solver

import (
	"strings"
	"testing"

	"planes/api"
	"planes/checker"
	"planes/corner"
	"planes/logbook"
	"planes/natural"
	"planes/problem"
	"planes/whole"
)

func read(t *testing.T, lines ...string) problem.Problem {
	t.Helper()
	p, e, line := problem.Read(strings.Join(lines, "\n") + "\n")
	if e != api.OK {
		t.Fatalf("the problem is refused: %d, %d", e, line)
	}
	return p
}

// hard wants some hundred cuts, and has as many rows as there may be.
func hard(t *testing.T) problem.Problem {
	t.Helper()
	return read(t, "vars 4", "max -3 -4 -2 -1", "range 0 2", "range 0 7", "range 0 2", "range 0 5",
		"row -7459392842 -2030 7394846243 545601020 = 25050338", "row 464229 -9928241662 -18 -1884512360 <= -6184048", "row -2 8135 -206584226 7 <= 44252",
		"row -8 46303 815624797 4611809 >= 2649604", "row -599060456 726 53946 -9677887360 <= -3", "row 6011 74355 -657693 -10 >= -6664694576")
}

func TestSolve(t *testing.T) {
	for _, c := range []struct {
		p           problem.Problem
		kind, cuts  int
		value, last string
	}{
		{read(t, "vars 1", "max 1", "range 0 2"), api.Greatest, 0, "2", "end 1:1\n"},
		{read(t, "vars 1", "max 0", "range 0 2"), api.Greatest, 0, "0", "end\n"},
		{read(t, "vars 1", "max 3", "range 0 2", "row 2 <= 3"), api.Greatest, 1, "3", "end 4:3\n"},
		{read(t, "vars 1", "max 1", "range 2 0"), api.None, 0, "", "end 2:1 1:1\n"},
		{read(t, "vars 1", "max 0", "range 0 1", "row 2 = 1"), api.None, 1, "", ""},
	} {
		got := Solve(c.p, api.MaxCuts, 10000)
		if got.Verdict.Kind != c.kind || got.Verdict.Value != c.value || got.Cuts != c.cuts || !strings.HasSuffix(got.Log, c.last) {
			t.Errorf("of %q: %+v", c.p, got)
		}
		if e, line := checker.Check(c.p, got.Verdict, got.Log); e != api.OK {
			t.Errorf("the log %q of %q: %d, %d", got.Log, c.p, e, line)
		}
	}
}

// follow goes through a search from cut to cut, and lets each be looked at
// ahead of its being added. It tells how many there were.
func follow(t *testing.T, p problem.Problem, look func(s *search, next cut)) int {
	t.Helper()
	s := begin(p)
	for {
		if _, done := s.settle(10000); done {
			return len(s.cuts)
		}
		next, split := s.deepest()
		if !split {
			return len(s.cuts)
		}
		look(s, next)
		s.add(next)
	}
}

// TestCut: a cut's factors are above 0 and below 1, its coefficients share
// nothing, the corner breaks it, and no cut of another rank leads further.
func TestCut(t *testing.T) {
	made := follow(t, hard(t), func(s *search, next cut) {
		for part := range next.line.written() {
			if part.Factor.Sign() <= 0 || part.Factor.Floor().Sign() != 0 {
				t.Errorf("a factor is %s", part.Factor)
			}
		}
		if next.row.Number != s.given+len(s.cuts)+1 || !next.row.CommonDivisor().IsOne() || s.at.Room(next.row).Sign() >= 0 {
			t.Errorf("the cut has the number %d, shares %s and has the room %s", next.row.Number, next.row.CommonDivisor(), s.at.Room(next.row))
		}
		for rank := range s.at.Splits() {
			if next.next.Ahead(s.cutOf(rank).next) {
				t.Errorf("the cut of rank %d leads further", rank)
			}
		}
	})
	if made < 50 {
		t.Errorf("only %d cuts were made", made)
	}
}

// TestCutShared: of 5 x at most 150/7, that 5 x is at most 21 is less than that
// x is at most 4.
func TestCutShared(t *testing.T) {
	s := begin(read(t, "vars 1", "max 5", "range 0 7", "row 7 <= 30"))
	s.settle(10000)
	c := s.cutOf(0)
	if got := logbook.Cut(c.line.written()); got != "cut 1:1/7\n" || c.row.Most.String() != "4" || !c.row.CommonDivisor().IsOne() {
		t.Errorf("the cut %q is at most %s", got, c.row.Most)
	}
}

// TestFewRows: were the rows not few, one could not be sure that the pivots
// are.
func TestFewRows(t *testing.T) {
	follow(t, hard(t), func(s *search, next cut) {
		if most := s.given + s.vars + 1; len(s.rows) > most {
			t.Fatalf("%d rows behind cut %d, at most %d may stay", len(s.rows), len(s.cuts), most)
		}
	})
}

// TestSettled: a settled corner breaks none of the rows that it is held
// against, and no corner comes ahead of the one before it.
func TestSettled(t *testing.T) {
	var before corner.Corner
	follow(t, hard(t), func(s *search, next cut) {
		for _, row := range s.rows {
			if s.at.Room(row).Sign() < 0 {
				t.Fatalf("a settled corner breaks row %d", row.Number)
			}
		}
		if len(s.cuts) > 0 && !before.Ahead(s.at) {
			t.Fatalf("cut %d led to no later corner", len(s.cuts))
		}
		before = s.at
	})
}

func TestLine(t *testing.T) {
	l := line{over: natural.Of(6)}
	for row, times := range []int64{0, 3, 0, 4, 6, 18} {
		l.take(row, whole.Of(times))
	}
	if got := logbook.Cut(l.written()); got != "cut 1:1/2 3:2/3 4:1 5:3\n" {
		t.Errorf("the line is %q", got)
	}
	for part := range l.written() {
		if part.String() != "1:1/2" {
			t.Errorf("the first part is %s", part)
		}
		break
	}
}
