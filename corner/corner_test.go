package corner

import (
	"math/rand"
	"slices"
	"testing"

	"planes/atmost"
	"planes/natural"
	"planes/whole"
)

func row(number int, most int64, factors ...int64) Numbered {
	return Numbered{atmost.Of(slices.Values(wholes(factors...)), whole.Of(most)), number}
}

// box has two bounds for each variable: from 0 to so much. Their numbers begin
// with 1.
func box(widths ...int64) []Numbered {
	var bounds []Numbered
	for i, width := range widths {
		alone := make([]int64, len(widths))
		alone[i] = 1
		bounds = append(bounds, row(2*i+1, width, alone...))
		alone[i] = -1
		bounds = append(bounds, row(2*i+2, 0, alone...))
	}
	return bounds
}

func rests(c Corner) []int {
	var numbers []int
	for edge := range c.Edges() {
		numbers = append(numbers, edge.Number)
	}
	return numbers
}

func TestFirst(t *testing.T) {
	bounds := []Numbered{row(4, 9, 1, 0, 0), row(5, -2, -1, 0, 0), row(6, 3, 0, 1, 0), row(7, 8, 0, -1, 0), row(8, -1, 0, 0, 1), row(9, 5, 0, 0, -1)}
	c := First(orderOf(2, 0, -7), slices.Values(bounds))
	if got := show(c.Point()); got != "9 -8 -5" || !slices.Equal(rests(c), []int{4, 7, 9}) || !c.Over().IsOne() {
		t.Errorf("the first corner is %s, on %v, over %s", got, rests(c), c.Over())
	}
	for rank := range c.Splits() {
		t.Errorf("rank %d of the first corner is not whole", rank)
	}
	for _, number := range []int{0, 4, 5, 6, 7, 8, 9} {
		if got := c.RestsOn(number); got != slices.Contains([]int{4, 7, 9}, number) {
			t.Errorf("RestsOn(%d) = %v", number, got)
		}
	}
}

// TestExchange goes through the document's second example: from 5, 5 to 2/3, 5
// and on to 3, 3/2.
func TestExchange(t *testing.T) {
	c := First(orderOf(5, 4), slices.Values(box(5, 5)))
	if got := c.Room(row(5, 24, 6, 4)).String(); got != "-26" {
		t.Errorf("the room is %s", got)
	}
	one, ok := c.Exchange(row(5, 24, 6, 4))
	if !ok || show(one.point) != "4 30" || one.Over().String() != "6" || !slices.Equal(rests(one), []int{5, 3}) {
		t.Fatalf("first to %s over %s on %v", show(one.point), one.Over(), rests(one))
	}
	two, ok := one.Exchange(row(6, 6, 1, 2))
	if !ok || show(two.point) != "24 12" || two.Over().String() != "8" || !slices.Equal(rests(two), []int{5, 6}) {
		t.Fatalf("then to %s over %s on %v", show(two.point), two.Over(), rests(two))
	}
	if splits := slices.Collect(two.Splits()); !slices.Equal(splits, []int{2}) {
		t.Errorf("the ranks that are not whole are %d", splits)
	}
	var losses []string
	for edge, loss := range two.Losses(0) {
		losses = append(losses, show([]whole.Whole{whole.Of(int64(edge.Number)), loss}))
	}
	if !slices.Equal(losses, []string{"5 6", "6 4"}) {
		t.Errorf("the value loses %q", losses)
	}
	if show(c.point) != "5 5" || show(one.point) != "4 30" {
		t.Errorf("the corners before are now %s and %s", show(c.point), show(one.point))
	}
}

// TestNoExchange: at 3, 0 room can be given by a lesser first variable or a
// greater second one.
func TestNoExchange(t *testing.T) {
	c := First(orderOf(1, -1), slices.Values(box(3, 3)))
	for _, in := range []struct {
		row  Numbered
		want bool
	}{
		{row(5, -1, 1, 0), true}, {row(5, -1, 0, -1), true}, {row(5, -1, 1, 1), true},
		{row(5, -1, 0, 1), false}, {row(5, -4, -1, 0), false}, {row(5, -4, -1, 1), false}, {row(5, -1, 0, 0), false},
	} {
		next, ok := c.Exchange(in.row)
		if ok != in.want || !ok && next.edges != nil {
			t.Errorf("an exchange for %s: %v, to %s", show(slices.Collect(in.row.Factors())), ok, show(next.point))
		}
	}
}

// checkCorner: the rows of its edges have no room, each edge gives its own row
// room and no other one, and none leads to an earlier point.
func checkCorner(t *testing.T, c Corner) {
	t.Helper()
	for edge := range c.Edges() {
		if room := c.Room(edge.Numbered); room.Sign() != 0 {
			t.Errorf("a row of the corner has the room %s", room)
		}
		if c.order.Sign(edge.loss) <= 0 {
			t.Errorf("the edge %s leads to an earlier point", show(edge.loss))
		}
		for other, gain := range c.Gains(edge.Numbered) {
			want := whole.Of(0)
			if other.Number == edge.Number {
				want = whole.OfNatural(c.Over())
			}
			if gain.Compare(want) != 0 {
				t.Errorf("an edge gives the room %s, want %s", gain, want)
			}
		}
	}
}

// TestExchangesDrawn: each exchange leads to a later corner, and all stays
// whole.
func TestExchangesDrawn(t *testing.T) {
	r := rand.New(rand.NewSource(37))
	draw := func() int64 { return int64(r.Intn(19) - 9) }
	exchanges, impossible := 0, 0
	for range 2000 {
		c := First(orderOf(draw(), draw(), draw()), slices.Values(box(3, 4, 5)))
		for number := 7; number < 20; number++ {
			in := row(number, draw(), draw(), draw(), draw())
			if c.Room(in).Sign() >= 0 {
				continue
			}
			next, ok := c.Exchange(in)
			if !ok {
				impossible++
				break
			}
			exchanges++
			checkCorner(t, next)
			if !c.Ahead(next) || next.Ahead(c) || next.Ahead(next) || !next.RestsOn(number) {
				t.Errorf("from %s over %s to %s over %s", show(c.point), c.over, show(next.point), next.over)
			}
			c = next
		}
		if t.Failed() {
			return
		}
	}
	if exchanges < 5000 || impossible < 500 {
		t.Errorf("%d exchanges, %d were not possible", exchanges, impossible)
	}
}

func TestSplits(t *testing.T) {
	for _, c := range []struct {
		over  uint64
		point []whole.Whole
		want  []int
	}{
		{1, wholes(3, -4), nil},
		{2, wholes(6, -4), nil},
		{2, wholes(3, 4), []int{0, 1}},
		{2, wholes(3, -3), []int{1, 2}},
		{2, wholes(-4, 3), []int{0, 2}},
		{3, wholes(-3, -4), []int{0, 2}},
		{3, wholes(-4, -4), []int{0, 1, 2}},
		{3, wholes(-4, -5), []int{1, 2}},
	} {
		at := Corner{order: orderOf(1, 1), over: natural.Of(c.over), point: c.point}
		if got := slices.Collect(at.Splits()); !slices.Equal(got, c.want) {
			t.Errorf("of %s over %d: %v", show(c.point), c.over, got)
		}
		for stop := range c.want {
			seen := 0
			for range at.Splits() {
				if seen == stop {
					break
				}
				seen++
			}
			if seen != stop {
				t.Errorf("left after %d: %d", stop, seen)
			}
		}
	}
}

// TestAhead: by the value, then by the greater first variable, then by the
// lesser second one.
func TestAhead(t *testing.T) {
	at := func(over uint64, point ...int64) Corner {
		return Corner{order: orderOf(2, -1), over: natural.Of(over), point: wholes(point...)}
	}
	inOrder := []Corner{at(3, 9, -3), at(1, 3, 0), at(2, 5, 3), at(1, 3, 3), at(7, 14, 8), at(1, 2, 2), at(3, 5, 4), at(1, 1, 0)}
	for i, one := range inOrder {
		for j, other := range inOrder {
			if got := one.Ahead(other); got != (i < j) {
				t.Errorf("%s over %s is ahead of %s over %s: %v", show(one.point), one.over, show(other.point), other.over, got)
			}
		}
	}
}

// TestLeftEarly: an iterator that went on after it was left would panic.
func TestLeftEarly(t *testing.T) {
	c := First(orderOf(5, 4, 3), slices.Values(box(5, 5, 5)))
	for stop := range 4 {
		for _, edges := range []func(yield func(Edge, whole.Whole) bool){c.Gains(row(9, 1, 1, 2, 3)), c.Losses(1)} {
			seen := 0
			for range edges {
				if seen == stop {
					break
				}
				seen++
			}
			if seen != stop {
				t.Errorf("left after %d: %d", stop, seen)
			}
		}
	}
}
