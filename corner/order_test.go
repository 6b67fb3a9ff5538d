package corner

import (
	"slices"
	"strings"
	"testing"

	"planes/whole"
)

func wholes(numbers ...int64) []whole.Whole {
	var list []whole.Whole
	for _, n := range numbers {
		list = append(list, whole.Of(n))
	}
	return list
}

func show(list []whole.Whole) string {
	var words []string
	for _, number := range list {
		words = append(words, number.String())
	}
	return strings.Join(words, " ")
}

func orderOf(aims ...int64) Order { return OrderOf(slices.Values(wholes(aims...))) }

func TestRanks(t *testing.T) {
	o := orderOf(3, 0, -2)
	point := wholes(5, 6, 7)
	if got := show(slices.Collect(o.Ranks(point))); got != "1 5 -6 -7" {
		t.Errorf("the ranks are %s", got)
	}
	if got := o.Value(point).String(); got != "1" {
		t.Errorf("the value is %s", got)
	}
	for at, want := range wholes(1, 5, -6, -7, 0) {
		if got := o.rank(point, at); got.Compare(want) != 0 {
			t.Errorf("rank %d is %s, want %s", at, got, want)
		}
	}
	for stop := range 5 {
		seen := 0
		for range o.Ranks(point) {
			if seen == stop {
				break
			}
			seen++
		}
		if seen != stop {
			t.Errorf("left after %d: %d", stop, seen)
		}
	}
}

func TestSign(t *testing.T) {
	o := orderOf(3, 0, -2)
	for _, c := range []struct {
		step []whole.Whole
		want int
	}{
		{wholes(0, 0, 0), 0},
		{wholes(1, 9, 0), 1}, {wholes(-1, -9, 0), -1},
		{wholes(0, 9, -1), 1}, {wholes(0, -9, 1), -1},
		{wholes(2, 9, 3), 1}, {wholes(-2, -9, -3), -1},
		{wholes(0, -1, 0), 1}, {wholes(0, 1, 0), -1},
	} {
		if got := o.Sign(c.step); got != c.want {
			t.Errorf("the sign of %s is %d, want %d", show(c.step), got, c.want)
		}
	}
}
