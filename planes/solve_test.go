package planes_test

import (
	"math"
	"math/big"
	"reflect"
	"strings"
	"sync"
	"testing"

	"planes/api"
	"planes/planes"
)

// far is a limit that nothing meets.
const far = math.MaxInt

func solved(t *testing.T, problem string, cuts, pivots int) api.Result {
	t.Helper()
	result, e, line := planes.Solve(problem, cuts, pivots)
	if e != api.OK || line != 0 {
		t.Fatalf("P6: Solve(%q, %d, %d) = %d, %d", problem, cuts, pivots, e, line)
	}
	return result
}

// checkSolved holds an answer that is not Limit against the verdict that is
// wanted, and its log against Audit.
func checkSolved(t *testing.T, problem string, result api.Result, want api.Verdict) {
	t.Helper()
	if !reflect.DeepEqual(result.Verdict, want) {
		t.Errorf("P6: of %q the verdict is %+v, want %+v", problem, result.Verdict, want)
	}
	if cuts := strings.Count(result.Log, "cut"); cuts != result.Cuts || strings.Count(result.Log, "\n") != cuts+1 {
		t.Errorf("P6: of %q %d cuts are said to be made, the log has %d: %.300q", problem, result.Cuts, cuts, result.Log)
	}
	checkLog(t, problem, result)
}

// checkLog looks at the log by Audit, or, if it is too long for that, by the
// library.
func checkLog(t *testing.T, problem string, result api.Result) {
	t.Helper()
	e, line := planes.Audit(problem, result.Verdict, result.Log)
	if len(result.Log) > api.MaxLog {
		if e != api.ErrLong || line != 0 {
			t.Errorf("P8: Audit of a log of %d bytes = %d, %d", len(result.Log), e, line)
		}
		m := modelOf(plainByShape(problem).want)
		e, line = m.logFault(result.Verdict, result.Log)
	}
	if e != api.OK || line != 0 {
		t.Errorf("P8: the log of %q does not show %+v: %d, %d: %.300q", problem, result.Verdict, e, line, result.Log)
	}
}

// checkLimit: Limit has nothing but its cuts.
func checkLimit(t *testing.T, what string, result api.Result, cuts int) {
	t.Helper()
	if want := (api.Result{Verdict: api.Verdict{Kind: api.Limit}, Cuts: cuts}); !reflect.DeepEqual(result, want) {
		t.Errorf("P6: %s: %+v, want %+v", what, result, want)
	}
}

type solveCase struct {
	problem string
	want    api.Verdict
}

// nines has so many digits as a number may have at most.
func nines() string { return strings.Repeat("9", api.MaxDigits) }

// farRange is as wide as may be, and ends at the greatest number there is.
func farRange() string { return "range " + nines()[1:] + "2 " + nines() }

// fullProblem has as many variables and rows as there may be, each row with
// both its sides.
func fullProblem() string {
	return text("vars 4", "max 3 1 0 -2", "range 0 7", "range 0 7", "range 0 7", "range 0 7",
		"row 2 3 5 7 = 40", "row 1 1 1 1 = 12", "row 0 0 0 0 = 0", "row 4 6 10 14 = 80", "row -1 -1 -1 -1 = -12", "row 2 2 2 2 = 24")
}

func solveCases() []solveCase {
	ties := "row 1 1 1 = 3"
	return []solveCase{
		{text("vars 2", "max 5 4", "range 0 5", "range 0 5", "row 6 4 <= 24", "row 1 2 <= 6"), greatest("20", "4", "0")},
		{text("vars 1", "max 0", "range 0 1", "row 2 = 1"), noPoint()},
		{halfProblem(), greatest("1", "1")},
		{wideProblem(), greatest("8", "1", "0", "-1", "2")},

		{text("vars 1", "max 1", "range -3 2"), greatest("2", "2")},
		{text("vars 1", "max 0", "range -3 2"), greatest("0", "-3")},
		{text("vars 1", "max -1", "range -3 2"), greatest("3", "-3")},
		{text("vars 1", "max -0", "range -00 0"), greatest("0", "0")},
		{text("vars 4", "max 1 0 -1 2", "range -1 1", "range -1 1", "range -1 1", "range -1 1"), greatest("4", "1", "-1", "-1", "1")},

		{text("vars 3", "max 1 1 1", "range 0 2", "range 0 2", "range 0 2", ties), greatest("3", "2", "1", "0")},
		{text("vars 3", "max 0 0 0", "range 0 2", "range 0 2", "range 0 2", ties), greatest("0", "0", "1", "2")},
		{text("vars 3", "max -1 -1 -1", "range 0 2", "range 0 2", "range 0 2", ties), greatest("-3", "0", "1", "2")},
		{text("vars 3", "max 0 1 1", "range 0 2", "range 0 2", "range 0 2", "row 2 2 2 <= 7"), greatest("3", "0", "2", "1")},
		{text("vars 3", "max 1 -1 0", "range 0 2", "range 0 2", "range 0 2", "row 1 -1 0 <= 1", "row 0 0 2 >= 1"), greatest("1", "2", "1", "1")},
		{text("vars 2", "max -2 2", "range 0 3", "range 0 3", "row -2 2 <= 3"), greatest("2", "0", "1")},
		{text("vars 2", "max 2 -2", "range 0 3", "range 0 3", "row 2 -2 <= 3"), greatest("2", "3", "2")},

		{text("vars 1", "max 1", "range 1 0"), noPoint()},
		{text("vars 2", "max 1 1", "range 0 7", "range "+nines()+" -"+nines(), "row 1 0 <= 3"), noPoint()},
		{text("vars 2", "max 1 0", "range 0 7", "range 0 7", "row 6 10 = 15"), noPoint()},
		{text("vars 2", "max 0 0", "range 0 1", "range 0 1", "row 0 0 <= -1"), noPoint()},
		{text("vars 2", "max 0 0", "range 0 1", "range 0 1", "row 1 1 >= 3"), noPoint()},
		{text("vars 2", "max 3 1", "range 0 3", "range 0 3", "row 2 2 >= 3", "row 2 2 <= 3"), noPoint()},

		{text("vars 1", "max -7", farRange(), "row 2 >= "+nines()), greatest("-6"+strings.Repeat("9", 38)+"44", nines()[1:]+"2")},
		{text("vars 1", "max "+nines(), "range -"+nines()+" -"+nines()[1:]+"2"), greatest("-"+timesNines(nines()[1:]+"2"), "-"+nines()[1:]+"2")},
		{text("vars 2", "max "+nines()+" -"+nines(), farRange(), farRange(), "row "+nines()+" -"+nines()+" <= "+nines()), greatest(nines(), nines(), nines()[1:]+"8")},
		{fullProblem(), greatest("19", "6", "1", "5", "0")},
		{longest(), noPoint()},
	}
}

// timesNines is what nines makes times another number.
func timesNines(number string) string {
	return new(big.Int).Mul(bigInt(nines()), bigInt(number)).String()
}

func TestSolveKnown(t *testing.T) {
	for _, c := range solveCases() {
		checkSolved(t, c.problem, solved(t, c.problem, far, far), c.want)
	}
}

// TestSolveReadme: what README.md shows.
func TestSolveReadme(t *testing.T) {
	want := api.Result{Verdict: greatest("1", "1"), Cuts: 1, Log: "cut 1:1/2\nend 4:1\n"}
	if got := solved(t, halfProblem(), api.MaxCuts, 10000); !reflect.DeepEqual(got, want) {
		t.Errorf("P6: %+v, want %+v", got, want)
	}
}

// TestSolveRefused: each error comes ahead of those behind it, and with an
// error there is nothing else.
func TestSolveRefused(t *testing.T) {
	good := halfProblem()
	wide := text("vars 2", "max 1 1", "range 0 7", "range 0 8")
	for _, c := range []struct {
		problem      string
		cuts, pivots int
		e            api.Errno
		line         int
	}{
		{strings.Repeat("x", api.MaxText+1), -1, -1, api.ErrLong, 0},
		{strings.Repeat("x", api.MaxText), -1, -1, api.ErrLine, 1},
		{"", -1, -1, api.ErrLine, 1},
		{"", far, far, api.ErrLine, 1},
		{wide + "row 1 1 <= 1/2\n", -1, -1, api.ErrLine, 5},
		{wide + "row 1 1 <= 1", -1, -1, api.ErrLine, 5},
		{wide, -1, -1, api.ErrWidth, 4},
		{wide, far, far, api.ErrWidth, 4},
		{good, -1, 0, api.ErrLimit, 0},
		{good, 0, -1, api.ErrLimit, 0},
		{good, -1, -1, api.ErrLimit, 0},
		{good, far, -1, api.ErrLimit, 0},
		{good, math.MinInt, far, api.ErrLimit, 0},
		{good, far, math.MinInt, api.ErrLimit, 0},
		{text("vars 1", "max 1", "range 1 0"), -1, far, api.ErrLimit, 0},
	} {
		result, e, line := planes.Solve(c.problem, c.cuts, c.pivots)
		if e != c.e || line != c.line || !reflect.DeepEqual(result, api.Result{}) {
			t.Errorf("P6: Solve(%.60q, %d, %d) = %+v, %d, %d, want %d, %d", c.problem, c.cuts, c.pivots, result, e, line, c.e, c.line)
		}
	}
}

// TestSolveAsPlain: of each text it says what Plain says of it.
func TestSolveAsPlain(t *testing.T) {
	for _, problem := range plainTexts() {
		for at := range len(problem) + 1 {
			cut := problem[:at]
			_, e, line := planes.Plain(cut)
			if _, got, there := planes.Solve(cut, 5, 5); got != e || there != line {
				t.Fatalf("P6: of %q Solve says %d, %d, and Plain %d, %d", cut, got, there, e, line)
			}
		}
	}
}

// fewestPivots is with how many pivots the answer is first not Limit.
func fewestPivots(t *testing.T, problem string) int {
	t.Helper()
	for pivots := range 10001 {
		if solved(t, problem, far, pivots).Verdict.Kind != api.Limit {
			return pivots
		}
	}
	t.Fatalf("P7: %q needs more than 10000 pivots", problem)
	return 0
}

// checkLimits: just as many cuts and pivots as are wanted, one less, and more
// than that.
func checkLimits(t *testing.T, problem string) (cuts, pivots int) {
	t.Helper()
	want := solved(t, problem, far, far)
	cuts, pivots = want.Cuts, fewestPivots(t, problem)
	for _, c := range []int{cuts, cuts + 1, api.MaxCuts, api.MaxCuts + 1, far} {
		for _, p := range []int{pivots, pivots + 1, 10000, far} {
			if got := solved(t, problem, c, p); !reflect.DeepEqual(got, want) {
				t.Errorf("P6: of %q with %d and %d: %+v, want %+v", problem, c, p, got, want)
			}
		}
	}
	for c := range cuts {
		checkLimit(t, problem, solved(t, problem, c, far), c)
		checkLimit(t, problem, solved(t, problem, c, pivots), c)
	}
	for p := range pivots {
		got := solved(t, problem, far, p)
		checkLimit(t, problem, got, got.Cuts)
		if got.Cuts > cuts {
			t.Errorf("P6: of %q with %d pivots %d cuts were made, of %d", problem, p, got.Cuts, cuts)
		}
		checkLimit(t, problem, solved(t, problem, got.Cuts, p), got.Cuts)
	}
	return cuts, pivots
}

func TestSolveLimits(t *testing.T) {
	for _, c := range solveCases() {
		checkLimits(t, c.problem)
	}
	for _, c := range []struct {
		lines        []string
		cuts, pivots int
	}{
		{[]string{"vars 1", "max 1", "range 0 1"}, 0, 0},
		{[]string{"vars 1", "max 1", "range 1 0"}, 0, 0},
		{[]string{"vars 1", "max 1", "range 0 7", "row 1 <= 4"}, 0, 1},
		{[]string{"vars 1", "max 1", "range 0 7", "row 2 <= 9"}, 1, 1},
		{[]string{"vars 1", "max 0", "range 0 1", "row 2 = 1"}, 1, 1},
		{[]string{"vars 2", "max 1 1", "range 0 7", "range 0 7", "row 1 0 <= 4", "row 0 1 <= 3"}, 0, 2},
	} {
		problem := text(c.lines...)
		if cuts, pivots := checkLimits(t, problem); cuts != c.cuts || pivots != c.pivots {
			t.Errorf("P6: of %q %d cuts and %d pivots are wanted, not %d and %d", problem, cuts, pivots, c.cuts, c.pivots)
		}
	}
}

// endless wants more than MaxCuts cuts: each takes only a little from the value.
func endless() string {
	return text("vars 2", "max 86418 156989", "range 0 7", "range 0 7", "row -220657456639 -856235679410 >= -4281178397051", "row -956659125559 -357132384317 >= -7283222318013")
}

// TestSolveMostCuts: cuts above MaxCuts count as MaxCuts.
func TestSolveMostCuts(t *testing.T) {
	for _, cuts := range []int{0, 1, 777, api.MaxCuts - 1, api.MaxCuts} {
		checkLimit(t, "few cuts", solved(t, endless(), cuts, far), cuts)
	}
	for _, cuts := range []int{api.MaxCuts + 1, far} {
		checkLimit(t, "many cuts", solved(t, endless(), cuts, far), api.MaxCuts)
	}
}

// TestSolveAlone: an answer hangs on the arguments alone, and shares no memory
// with another one, spare room too.
func TestSolveAlone(t *testing.T) {
	var calls sync.WaitGroup
	for range 4 {
		calls.Go(func() {
			for _, c := range solveCases() {
				result, _, _ := planes.Solve(c.problem, far, far)
				again, _, _ := planes.Solve(c.problem, far, far)
				if !reflect.DeepEqual(result, again) {
					t.Errorf("P2: of %q first %+v, then %+v", c.problem, result, again)
				}
				room := result.Verdict.Point[:cap(result.Verdict.Point)]
				for i := range room {
					room[i] = "spoilt"
				}
				if third, _, _ := planes.Solve(c.problem, far, far); !reflect.DeepEqual(third, again) || !reflect.DeepEqual(again.Verdict, c.want) {
					t.Errorf("P2: of %q then %+v, at last %+v", c.problem, again, third)
				}
			}
		})
	}
	calls.Wait()
}
