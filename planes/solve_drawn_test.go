package planes_test

import (
	"math/big"
	"math/rand"
	"strconv"
	"strings"
	"testing"

	"planes/api"
	"planes/planes"
)

// verdict tries every point, and takes of those of the greatest value the one
// that comes first.
func (m *model) verdict() api.Verdict {
	var first []*big.Int
	var greatestValue *big.Int
	for point := range m.points {
		value, ok := m.valueAt(point)
		if !ok {
			continue
		}
		better := 1
		if first != nil {
			better = value.Cmp(greatestValue)
		}
		if better > 0 || better == 0 && m.ahead(point, first) {
			first, greatestValue = point, value
		}
	}
	if first == nil {
		return noPoint()
	}
	v := greatest(greatestValue.String())
	for _, x := range first {
		v.Point = append(v.Point, x.String())
	}
	return v
}

// points goes over all points within the ranges.
func (m *model) points(yield func([]*big.Int) bool) { m.pointsFrom(nil, yield) }

func (m *model) pointsFrom(some []*big.Int, yield func([]*big.Int) bool) bool {
	at := len(some)
	if at == len(m.max) {
		return yield(some)
	}
	for x := m.low[at]; x.Cmp(m.high[at]) <= 0; x = new(big.Int).Add(x, big.NewInt(1)) {
		if !m.pointsFrom(append(some[:at:at], x), yield) {
			return false
		}
	}
	return true
}

func (m *model) ahead(point, other []*big.Int) bool {
	for i, x := range point {
		if order := x.Cmp(other[i]); order != 0 {
			return (order > 0) == (m.max[i].Sign() > 0)
		}
	}
	return false
}

// bound is B of P7.
func (m *model) bound() *big.Int {
	sum, product := big.NewInt(1), big.NewInt(1)
	for i, aim := range m.max {
		width := new(big.Int).Sub(m.high[i], m.low[i])
		if width.Sign() < 0 {
			return new(big.Int)
		}
		sum.Add(sum, new(big.Int).Mul(new(big.Int).Abs(aim), width))
		product.Mul(product, new(big.Int).Add(width, big.NewInt(1)))
	}
	return sum.Mul(sum, product)
}

// drawing is how a problem is drawn: how many variables it has at most, how
// great its coefficients are, those of max and those of its rows, how wide its
// ranges, and how far away.
type drawing struct {
	vars             int
	max, rows, width int64
	away             *big.Int
	equal            bool
}

func between(r *rand.Rand, size int64) *big.Int { return big.NewInt(r.Int63n(2*size+1) - size) }

// problem draws rows of which some have little room, or none.
func (d drawing) problem(r *rand.Rand) string {
	n := 1 + r.Intn(d.vars)
	lines := []string{"vars " + strconv.Itoa(n), "max"}
	var some []*big.Int
	for range n {
		lines[1] += " " + between(r, d.max).String()
		low := between(r, 5)
		low.Add(low, d.away)
		width := r.Int63n(d.width + 1)
		if r.Intn(40) == 0 {
			width = -1 - r.Int63n(3)
		}
		lines = append(lines, "range "+low.String()+" "+new(big.Int).Add(low, big.NewInt(width)).String())
		some = append(some, low.Add(low, big.NewInt(r.Int63n(max(1, width+1)))))
	}
	for range r.Intn(api.MaxRows + 1) {
		lines = append(lines, d.row(r, some))
	}
	return text(lines...)
}

// row is met by a point, or nearly so.
func (d drawing) row(r *rand.Rand, some []*big.Int) string {
	row, sum := "row", new(big.Int)
	for _, x := range some {
		factor := between(r, d.rows)
		row += " " + factor.String()
		sum.Add(sum, factor.Mul(factor, x))
	}
	if r.Intn(4) == 0 {
		sum.Add(sum, between(r, 1+d.rows/2))
	}
	relations := []string{"<=", ">=", "<=", ">=", "="}
	if d.equal {
		relations = relations[4:]
	}
	return row + " " + relations[r.Intn(len(relations))] + " " + sum.String()
}

func drawings() []drawing {
	nought, edge := new(big.Int), bigInt("9"+strings.Repeat("0", api.MaxDigits-1))
	return []drawing{
		{vars: 2, max: 2, rows: 3, width: 3, away: nought},
		{vars: 3, max: 9, rows: 9, width: 4, away: nought},
		{vars: 4, max: 1, rows: 20, width: 3, away: nought},
		{vars: 3, max: 2, rows: 1000, width: 7, away: nought},
		{vars: 3, max: 3, rows: 1 << 40, width: 5, away: nought},
		{vars: 4, max: 1, rows: 30, width: 3, away: nought, equal: true},
		{vars: 2, max: 40, rows: 0, width: 7, away: edge},
		{vars: 1, max: 1 << 50, rows: 1, width: 7, away: edge},
		{vars: 2, max: 1 << 50, rows: 90, width: 7, away: nought},
	}
}

// checkDrawn holds the answer against all points there are: with cuts and
// pivots as P7 has them, where it speaks of the problem.
func checkDrawn(t *testing.T, problem string) api.Result {
	t.Helper()
	m := modelOf(plainByShape(problem).want)
	cuts, pivots := far, far
	bound := m.bound()
	if bound.Cmp(big.NewInt(api.MaxCuts)) <= 0 {
		cuts, pivots = int(bound.Int64()), 10000
	}
	result := solved(t, problem, cuts, pivots)
	if result.Verdict.Kind == api.Limit && pivots == far {
		checkLimit(t, problem, result, api.MaxCuts)
		return result
	}
	checkSolved(t, problem, result, m.verdict())
	checkOthers(t, &m, problem, result)
	return result
}

// checkOthers: no other verdict is shown by the same log.
func checkOthers(t *testing.T, m *model, problem string, result api.Result) {
	t.Helper()
	check := func(v api.Verdict) {
		t.Helper()
		if e, _ := planes.Audit(problem, v, result.Log); e == api.OK {
			t.Errorf("P8: the log of %q, %q, shows %+v too", problem, result.Log, v)
		}
	}
	if result.Verdict.Kind == api.None {
		check(greatest("0", strings.Split("0 0 0 0", " ")[:len(m.max)]...))
		return
	}
	check(noPoint())
	for _, more := range []int64{-1, 1} {
		value := bigInt(result.Verdict.Value)
		check(greatest(value.Add(value, big.NewInt(more)).String(), result.Verdict.Point...))
	}
	for point := range m.points {
		if value, ok := m.valueAt(point); ok && value.String() != result.Verdict.Value {
			lesser := greatest(value.String())
			for _, x := range point {
				lesser.Point = append(lesser.Point, x.String())
			}
			check(lesser)
			return
		}
	}
}

// TestSolveDrawn also looks that the draws are of all kinds.
func TestSolveDrawn(t *testing.T) {
	r := rand.New(rand.NewSource(23))
	for i, d := range drawings() {
		kinds, cuts := map[int]int{}, 0
		for range 400 {
			result := checkDrawn(t, d.problem(r))
			kinds[result.Verdict.Kind]++
			cuts += result.Cuts
			if t.Failed() {
				return
			}
		}
		t.Logf("drawing %d: %v, %d cuts", i, kinds, cuts)
		if kinds[api.Greatest] < 50 || kinds[api.None] < 5 {
			t.Errorf("drawing %d: %v, %d cuts", i, kinds, cuts)
		}
	}
}

// TestSolveDrawnLimits: other limits change nothing but whether it is Limit.
func TestSolveDrawnLimits(t *testing.T) {
	r := rand.New(rand.NewSource(29))
	most := 0
	for range 200 {
		problem := drawing{vars: 3, max: 5, rows: 12, width: 4, away: new(big.Int)}.problem(r)
		cuts, _ := checkLimits(t, problem)
		most = max(most, cuts)
	}
	if most < 3 {
		t.Errorf("no problem wanted more than %d cuts", most)
	}
}

// hardProblems want many cuts, but no more than P7 allows; the last three have
// logs that are too long for Audit.
func hardProblems() []string {
	four := []string{"vars 4", "max 0 0 0 0", "range 0 7", "range 0 7", "range 0 7", "range 0 7"}
	return []string{
		text("vars 3", "max -4 -3 1", "range 0 6", "range 0 6", "range 0 7", "row -56448 59596 -66 = 75", "row -66 -65425 10 <= 73", "row -9872 -54 512 <= 3143", "row 88754 -28 -86 >= 217", "row -245 -45 -20523 <= -59", "row -4 -7289 -90 <= 95"),
		text("vars 3", "max 2 1 4", "range 0 7", "range 0 7", "range 0 4", "row 6354537 673184 4134343394 <= 7070131972", "row -5572 -2377 6815264730 >= 6860743983", "row -825 17 -960100 <= 955005", "row 3006 429820 -4893912370 <= -1", "row -390715 728990 334750455 >= 911", "row 94 -6 -9312089903 <= 78"),
		text("vars 4", "max -3 -4 -2 -1", "range 0 2", "range 0 7", "range 0 2", "range 0 5", "row -7459392842 -2030 7394846243 545601020 = 25050338", "row 464229 -9928241662 -18 -1884512360 <= -6184048", "row -2 8135 -206584226 7 <= 44252", "row -8 46303 815624797 4611809 >= 2649604", "row -599060456 726 53946 -9677887360 <= -3", "row 6011 74355 -657693 -10 >= -6664694576"),
		text(append(four, "row 746105242928452956334774261391279681168 58542838054469577470763171204839445683 938661757363394372580347033555596332613 832015942331183509212041119727118979565 = 9751001440753438389061487714153387654495")...),
		text(append(four, "row 431874270793743487109306298629025937132 370058745552900253726114201726571929170 768212979965176557484043996026148754733 541399182954354803416387444678207962620 = 8995343872708654331813289468167603038378")...),
	}
}

func TestSolveHard(t *testing.T) {
	long := map[int]int{}
	for _, problem := range hardProblems() {
		result := checkDrawn(t, problem)
		if result.Cuts < 50 {
			t.Errorf("%q wanted only %d cuts", problem, result.Cuts)
		}
		if len(result.Log) > api.MaxLog {
			long[result.Verdict.Kind]++
		}
	}
	if long[api.Greatest] == 0 || long[api.None] == 0 {
		t.Errorf("the logs above MaxLog are %v", long)
	}
}

// TestSolveKnownTried: what is written down in solveCases is what trying all
// points gives; and of the spoilt texts none does harm.
func TestSolveKnownTried(t *testing.T) {
	r := rand.New(rand.NewSource(31))
	for _, c := range solveCases() {
		checkDrawn(t, c.problem)
		for range 100 {
			checkAny(t, spoilt(r, c.problem), r.Intn(7)-1, r.Intn(7)-1)
		}
	}
}

// checkAny: whatever the arguments are, the error is the right one; and if
// there is none, so is the answer.
func checkAny(t *testing.T, problem string, cuts, pivots int) {
	t.Helper()
	want := plainByShape(problem)
	if want.e == api.OK && (cuts < 0 || pivots < 0) {
		want.e = api.ErrLimit
	}
	result, e, line := planes.Solve(problem, cuts, pivots)
	if e != want.e || line != want.line {
		t.Fatalf("P6: Solve(%q, %d, %d) = %d, %d, want %d, %d", problem, cuts, pivots, e, line, want.e, want.line)
	}
	switch {
	case e != api.OK:
		if result.Verdict.Kind != 0 || result.Verdict.Point != nil || result.Verdict.Value != "" || result.Cuts != 0 || result.Log != "" {
			t.Errorf("P1: of %q with an error: %+v", problem, result)
		}
	case result.Verdict.Kind == api.Limit:
		checkLimit(t, problem, result, min(result.Cuts, cuts, api.MaxCuts))
	default:
		m := modelOf(want.want)
		checkSolved(t, problem, result, m.verdict())
	}
}

func FuzzSolve(f *testing.F) {
	for _, c := range solveCases() {
		f.Add(c.problem, 100, 100)
	}
	f.Add(endless(), 100, 3)
	f.Fuzz(func(t *testing.T, problem string, cuts, pivots int) {
		checkAny(t, problem, cuts, pivots)
		if plainByShape(problem).e == api.OK {
			checkDrawn(t, problem)
		}
	})
}
