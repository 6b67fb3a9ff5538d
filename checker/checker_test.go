package checker

import (
	"strings"
	"testing"

	"planes/api"
	"planes/natural"
	"planes/problem"
)

func read(t *testing.T, lines ...string) problem.Problem {
	t.Helper()
	p, e, line := problem.Read(strings.Join(lines, "\n") + "\n")
	if e != api.OK {
		t.Fatalf("the problem is refused: %d, %d", e, line)
	}
	return p
}

func TestCheck(t *testing.T) {
	p := read(t, "vars 1", "max 1", "range 0 2", "row 2 <= 3")
	greatest := api.Verdict{Kind: api.Greatest, Point: []string{"1"}, Value: "1"}
	for _, c := range []struct {
		v    api.Verdict
		log  string
		e    api.Errno
		line int
	}{
		{greatest, "end 1:1/2\n", api.OK, 0},
		{greatest, "cut 1:1/2\nend 4:1\n", api.OK, 0},
		{greatest, "cut 1:1/2\nend 5:1\n", api.ErrRow, 2},
		{greatest, "cut 1:1/2\nend 4:0\n", api.ErrFactor, 2},
		{greatest, "cut 1:1/4\nend 1:1/2\n", api.ErrWhole, 1},
		{greatest, "cut 1:1/2\nend 1:1\n", api.ErrEnd, 2},
		{greatest, "cut 1:1/2\nend 4:1", api.ErrLine, 2},
		{greatest, strings.Repeat("x", api.MaxLog), api.ErrLine, 1},
		{greatest, strings.Repeat("x", api.MaxLog+1), api.ErrLong, 0},
		{api.Verdict{Kind: api.None}, "end 1:1/2\n", api.ErrEnd, 1},
		{api.Verdict{Kind: api.Limit}, "end 1:1/2\n", api.ErrVerdict, 0},
		{api.Verdict{Kind: api.Greatest, Point: []string{"2"}, Value: "2"}, "end 1:1/2\n", api.ErrPoint, 0},
	} {
		if e, line := Check(p, c.v, c.log); e != c.e || line != c.line {
			t.Errorf("Check(%v, %.40q) = %d, %d, want %d, %d", c.v, c.log, e, line, c.e, c.line)
		}
	}
}

// TestFind: a row's number may be far above what a machine's number holds, and
// must not wrap round to one that is there.
func TestFind(t *testing.T) {
	l := newLedger(read(t, "vars 2", "max 1 1", "range 0 2", "range 0 2", "row 1 1 = 3"))
	for n := range uint64(10) {
		if row, ok := l.find(natural.Of(n)); ok != (n >= 1 && n <= 6) || ok && !row.Same(l.rows[n-1]) {
			t.Errorf("find(%d) = %v, %v", n, row, ok)
		}
	}
	for _, text := range []string{"4294967297", "9223372036854775809", "18446744073709551615", "18446744073709551617", "1" + strings.Repeat("0", 5000)} {
		number, _ := natural.Parse(text, len(text))
		if _, ok := l.find(number); ok {
			t.Errorf("find(%.40s) finds a row", text)
		}
	}
}

// TestVerdictLeavesNothing: with an error there is no goal.
func TestVerdictLeavesNothing(t *testing.T) {
	p := read(t, "vars 1", "max 1", "range 0 2")
	for _, v := range []api.Verdict{{}, {Kind: api.Greatest}, {Kind: api.Greatest, Point: []string{"3"}, Value: "3"}} {
		if shows, e := readVerdict(p, v); e == api.OK || shows != nil {
			t.Errorf("readVerdict(%v) = %v, %d", v, shows != nil, e)
		}
	}
}
