package atmost

import (
	"slices"
	"strings"
	"testing"

	"planes/fraction"
	"planes/natural"
	"planes/whole"
)

func wholes(numbers ...int64) []whole.Whole {
	var list []whole.Whole
	for _, n := range numbers {
		list = append(list, whole.Of(n))
	}
	return list
}

func row(most int64, factors ...int64) Row {
	return Of(slices.Values(wholes(factors...)), whole.Of(most))
}

func show(r Row) string {
	var words []string
	for factor := range r.Factors() {
		words = append(words, factor.String())
	}
	return strings.Join(append(words, "<=", r.Most.String()), " ")
}

func number(t *testing.T, text string) fraction.Fraction {
	t.Helper()
	f, ok := fraction.Parse(text, 40)
	if !ok {
		t.Fatalf("%s is no number", text)
	}
	return f
}

func TestTurned(t *testing.T) {
	r := row(-3, 1, -2, 0)
	if got := show(r.Turned()); got != "-1 2 0 <= 3" {
		t.Errorf("turned: %s", got)
	}
	if got := show(r); got != "1 -2 0 <= -3" {
		t.Errorf("the row is now %s", got)
	}
}

func TestAt(t *testing.T) {
	r := row(4, 3, -2)
	for _, c := range []struct {
		point []whole.Whole
		at    int64
		holds bool
	}{
		{wholes(0, 0), 0, true}, {wholes(2, 1), 4, true}, {wholes(3, 2), 5, false}, {wholes(-1, -4), 5, false}, {wholes(-5, 5), -25, true},
	} {
		if got := r.At(c.point); got.Compare(whole.Of(c.at)) != 0 || r.HoldsAt(c.point) != c.holds {
			t.Errorf("at %v: %s, %v", c.point, got, r.HoldsAt(c.point))
		}
	}
}

func TestSame(t *testing.T) {
	r := row(4, 3, -2)
	if !r.Same(row(4, 3, -2)) || !r.Same(r.Turned().Turned()) || !row(0).Same(row(0)) {
		t.Error("a row is not the same as itself")
	}
	for _, other := range []Row{row(5, 3, -2), row(3, 3, -2), row(-4, 3, -2), row(4, 2, -2), row(4, 3, 2), row(4, 3, -1), row(4, 3), row(4), row(4, 3, -2, 0)} {
		if r.Same(other) || other.Same(r) {
			t.Errorf("%s is said to be the same as %s", show(r), show(other))
		}
	}
}

func TestHoldsNowhere(t *testing.T) {
	for _, r := range []Row{row(-1, 0, 0), row(-9, 0)} {
		if !r.HoldsNowhere() {
			t.Errorf("%s is said to hold somewhere", show(r))
		}
	}
	for _, r := range []Row{row(0, 0, 0), row(1, 0, 0), row(-1, 1, 0), row(-1, 0, -1), row(0, 0)} {
		if r.HoldsNowhere() {
			t.Errorf("%s is said to hold nowhere", show(r))
		}
	}
}

func TestBlend(t *testing.T) {
	type part struct {
		row   Row
		times string
	}
	one, two := row(24, 6, 4), row(-3, 1, -2)
	for _, c := range []struct {
		parts []part
		want  string
	}{
		{nil, "0 0 <= 0"},
		{[]part{{one, "1"}}, "6 4 <= 24"},
		{[]part{{one, "1/2"}}, "3 2 <= 12"},
		{[]part{{one, "1/4"}}, ""},
		{[]part{{one, "1/3"}}, ""},
		{[]part{{one, "1/4"}, {two, "1/2"}}, "2 0 <= 4"},
		{[]part{{two, "1/2"}, {one, "1/4"}}, "2 0 <= 4"},
		{[]part{{two, "1/2"}, {two, "1/2"}}, "1 -2 <= -3"},
		{[]part{{row(7, 2, 0), "1/2"}}, "1 0 <= 3"},
		{[]part{{row(-7, 2, 0), "1/2"}}, "1 0 <= -4"},
		{[]part{{row(-8, 2, 0), "1/2"}}, "1 0 <= -4"},
		{[]part{{row(-1, 0, 0), "1/100"}}, "0 0 <= -1"},
		{[]part{{row(1, 0, 1), "1/2"}}, ""},
		{[]part{{row(1, 1, 0), "1/2"}}, ""},
	} {
		sum, got := Nothing(2), ""
		for _, p := range c.parts {
			sum = sum.Plus(p.row, number(t, p.times))
		}
		floored, ok := sum.Floored()
		if ok {
			got = show(floored)
		}
		if got != c.want {
			t.Errorf("%v make %q, want %q", c.parts, got, c.want)
		}
		if !ok && (floored.factors != nil || floored.Most.Sign() != 0) {
			t.Errorf("what is not whole leaves %s", show(floored))
		}
	}
}

// TestBlendIsKept: a blend that one goes on from can be gone on from again.
func TestBlendIsKept(t *testing.T) {
	start := Nothing(2).Plus(row(2, 1, 0), number(t, "1"))
	first, second := start.Plus(row(1, 0, 1), number(t, "1")), start.Plus(row(1, 0, 1), number(t, "5"))
	for want, blend := range map[string]Blend{"1 0 <= 2": start, "1 1 <= 3": first, "1 5 <= 7": second} {
		if got, ok := blend.Floored(); !ok || show(got) != want {
			t.Errorf("the blend is %s, want %s", show(got), want)
		}
	}
}

// TestLeftEarly: an iterator that went on after it was left would panic; and
// it begins anew when it is gone over again.
func TestLeftEarly(t *testing.T) {
	r := row(0, 1, 2, 3)
	for range 2 {
		for factor := range r.Factors() {
			if factor.String() != "1" {
				t.Errorf("the first factor is %s", factor)
			}
			break
		}
		for factor := range r.each(whole.Whole.Turned) {
			if factor.String() != "-1" {
				t.Errorf("the first factor turned is %s", factor)
			}
			break
		}
		for factor, x := range r.With(wholes(7, 8, 9)) {
			if factor.String() != "1" || x.String() != "7" {
				t.Errorf("the first factor is %s, with %s", factor, x)
			}
			break
		}
	}
}

// TestOwnMemory: a list that coefficients came from is not kept.
func TestOwnMemory(t *testing.T) {
	list := wholes(1, 2)
	r := Of(slices.Values(list), whole.Of(3))
	list[0] = whole.Of(9)
	if show(r) != "1 2 <= 3" {
		t.Errorf("the row is now %s", show(r))
	}
}

func TestPlus(t *testing.T) {
	start := Blank(3)
	if show(start) != "0 0 0 <= 0" {
		t.Fatalf("Blank: %s", show(start))
	}
	one := start.Plus(row(5, 1, -2, 0), whole.Of(2))
	two := one.Plus(row(-1, 1, 1, 1), whole.Of(3))
	three := one.Plus(row(-1, 1, 1, 1), whole.Of(-1))
	for want, got := range map[string]Row{"0 0 0 <= 0": start, "2 -4 0 <= 10": one, "5 -1 3 <= 7": two, "1 -5 -1 <= 11": three} {
		if show(got) != want {
			t.Errorf("Plus makes %s, want %s", show(got), want)
		}
	}
}

func TestOver(t *testing.T) {
	for _, c := range []struct {
		row     Row
		divisor uint64
		want    string
	}{
		{row(7, 2, -4), 2, "1 -2 <= 3"},
		{row(-7, 2, -4), 2, "1 -2 <= -4"},
		{row(-8, 2, -4), 2, "1 -2 <= -4"},
		{row(-7, 5, 3), 1, "5 3 <= -7"},
		{row(2, 0, 9), 3, "0 3 <= 0"},
		{row(-2, 0, 9), 9, "0 1 <= -1"},
	} {
		if got := show(c.row.Over(natural.Of(c.divisor))); got != c.want {
			t.Errorf("%s over %d = %s, want %s", show(c.row), c.divisor, got, c.want)
		}
	}
}

func TestCommonDivisor(t *testing.T) {
	for want, r := range map[string]Row{"0": row(6, 0, 0), "1": row(6, 2, 3), "2": row(7, -2, 4, 0), "5": row(0, 0, -5), "6": row(1, 12, -18, 30)} {
		if got := r.CommonDivisor().String(); got != want {
			t.Errorf("what the coefficients of %s share is %s, want %s", show(r), got, want)
		}
	}
}

func TestSum(t *testing.T) {
	s := SumOf(slices.Values(wholes(5, -4)))
	if got := s.At(wholes(2, 3)); got.Compare(whole.Of(-2)) != 0 {
		t.Errorf("the sum is %s", got)
	}
}
