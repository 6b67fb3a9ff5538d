package planes_test

import (
	"math"
	"slices"
	"strings"
	"sync"
	"testing"

	"planes/api"
	"planes/planes"
)

type auditCase struct {
	problem string
	v       api.Verdict
	log     string
	e       api.Errno
	line    int
}

func checkAudit(t *testing.T, c auditCase) {
	t.Helper()
	if e, line := planes.Audit(c.problem, c.v, c.log); e != c.e || line != c.line {
		t.Errorf("P5: Audit(%.200q, %.100v, %.200q) = %d, %d, want %d, %d", c.problem, c.v, c.log, e, line, c.e, c.line)
	}
}

func greatest(value string, point ...string) api.Verdict {
	return api.Verdict{Kind: api.Greatest, Point: point, Value: value}
}

func noPoint() api.Verdict { return api.Verdict{Kind: api.None} }

// halfProblem's greatest point is 1: shown by `end 1:1/2`. It has 3 rows.
func halfProblem() string { return text("vars 1", "max 1", "range 0 2", "row 2 <= 3") }

// wideProblem has 12 rows: 1, 2 (a `>=`), 3 and 4 (an `=`), 5 and 6 of the
// first variable, and so on. Its greatest point is 1 0 -1 2.
func wideProblem() string {
	return text("vars 4", "max 2 -1 0 3", "range 0 1", "range 0 4", "range -1 5", "range -3 2", "row 1 1 1 1 <= 9", "row 1 0 0 -1 >= -5", "row 0 1 1 0 = -1")
}

// auditShown are verdicts with logs that show them.
func auditShown() []auditCase {
	odd := text("vars 1", "max 0", "range 0 1", "row 2 = 1")
	triangle := text("vars 3", "max 1 1 1", "range 0 1", "range 0 1", "range 0 1", "row 1 1 0 <= 1", "row 0 1 1 <= 1", "row 1 0 1 <= 1")
	document := text("vars 2", "max 5 4", "range 0 5", "range 0 5", "row 6 4 <= 24", "row 1 2 <= 6")
	nines, noughts := strings.Repeat("9", api.MaxDigits), strings.Repeat("0", 99)
	one := greatest("1", "1")
	cases := []auditCase{
		{odd, noPoint(), "cut 1:1/2\nend 2:1/2 5:1\n", 0, 0},
		{odd, noPoint(), "cut 2:1/2\nend 5:1 1:1/2\n", 0, 0},
		{document, greatest("20", "4", "0"), "cut 1:1/8 2:1/4\nend 1:1/2 7:2\n", 0, 0},
		{triangle, greatest("1", "1", "0", "0"), "end 1:1/2 2:1/2 3:1/2\n", 0, 0},
		{triangle, greatest("1", "0", "0", "1"), "cut 1:1/2 2:1/2 3:1/2\nend 10:1\n", 0, 0},
		{wideProblem(), greatest("8", "1", "0", "-1", "2"), "end 5:2 8:1 11:3\n", 0, 0},
		{halfProblem(), one, "end 1:1/2\n", 0, 0},
		{halfProblem(), one, "end 1:1/4 1:1/4\n", 0, 0},
		{halfProblem(), one, "end 001:002/004\n", 0, 0},
		{halfProblem(), one, "cut\ncut 1:1/2\ncut 5:1/1\nend 6:1\n", 0, 0},
		{halfProblem(), greatest("01", "0001"), "end 1:1/2\n", 0, 0},
		{halfProblem(), greatest(noughts+"1", noughts+"1"), "end 1:1/2\n", 0, 0},
		{text("vars 1", "max 0", "range 0 1"), greatest("-0", "-0"), "end\n", 0, 0},
		{text("vars 1", "max 0", "range 0 1"), greatest("-"+noughts+"0", "-"+noughts+"0"), "end\n", 0, 0},
		{text("vars 1", "max 0", "range -1 1"), greatest("0", "1"), "cut\nend 3:7\n", 0, 0},
		{text("vars 1", "max -3", "range -2 1"), greatest("6", "-2"), "end 2:3\n", 0, 0},
		{text("vars 1", "max 1", "range -5 0", "row 2 <= -3"), greatest("-2", "-2"), "end 1:1/2\n", 0, 0},
		{text("vars 1", "max 2", "range -5 0", "row 2 <= -3"), greatest("-4", "-2"), "cut 1:1/2\nend 4:2\n", 0, 0},
		{text("vars 1", "max 1", "range 3 2"), noPoint(), "end 1:1 2:1\n", 0, 0},
		{text("vars 1", "max 1", "range 3 2"), noPoint(), "end 1:1/1000 2:1/1000\n", 0, 0},
		{text("vars 2", "max 1 0", "range 0 5", "range 0 1", "row 0 0 >= 1"), noPoint(), "end 1:1\n", 0, 0},
		{text("vars 1", "max "+nines, "range "+nines+" "+nines), greatest(strings.Repeat("9", 39)+"8"+strings.Repeat("0", 39)+"1", nines), "end 1:" + nines + "\n", 0, 0},
	}
	for _, v := range []api.Verdict{{Kind: api.None, Point: []string{"x", ""}, Value: "/"}, {Kind: api.None, Point: []string{"0"}, Value: "0"}} {
		cases = append(cases, auditCase{odd, v, "cut 1:1/2\nend 2:1/2 5:1\n", 0, 0})
	}
	return cases
}

func TestAuditShown(t *testing.T) {
	for _, c := range auditShown() {
		checkAudit(t, c)
	}
}

func TestAuditDocument(t *testing.T) {
	problem := text("vars 2", "max 5 4", "range 0 5", "range 0 5", "row 6 4 <= 24", "row 1 2 <= 6")
	v := greatest("20", "4", "0")
	for _, c := range []auditCase{
		{problem, v, "cut 1:1/2 4:1\nend 1:1\n", api.ErrEnd, 2},
		{problem, v, "cut 1:1/4\nend 1:1\n", api.ErrWhole, 1},
		{problem, v, "end 1:3/4 2:1/2\n", api.ErrEnd, 1},
		{problem, greatest("22", "2", "3"), "end 1:3/4 2:1/2\n", api.ErrPoint, 0},
		{problem, greatest("19", "3", "1"), "end 1:3/4 2:1/2\n", api.ErrEnd, 1},
	} {
		checkAudit(t, c)
	}
}

// TestAuditOrder: each error comes ahead of all that its promise names behind
// it, which are in the same arguments.
func TestAuditOrder(t *testing.T) {
	long := strings.Repeat("x", api.MaxLog+1)
	half, one := halfProblem(), greatest("1", "1")
	for _, c := range []auditCase{
		{strings.Repeat("x", api.MaxText+1), api.Verdict{}, long, api.ErrLong, 0},
		{"", api.Verdict{}, long, api.ErrLine, 1},
		{half + "row 1\n", api.Verdict{}, long, api.ErrLine, 5},
		{text("vars 1", "max 1", "range 0 8"), api.Verdict{}, long, api.ErrWidth, 3},
		{half, api.Verdict{}, long, api.ErrVerdict, 0},
		{half, greatest("x", "9"), long, api.ErrVerdict, 0},
		{half, greatest("9", "x"), long, api.ErrVerdict, 0},
		{half, greatest("9", "9"), long, api.ErrPoint, 0},
		{half, greatest("9", "1"), long, api.ErrPoint, 0},
		{half, one, long, api.ErrLong, 0},
		{half, one, strings.Repeat("\n", api.MaxLog+1), api.ErrLong, 0},
		{half, noPoint(), long, api.ErrLong, 0},

		{half, one, "cut 9:0 1:1/3 x\nend\n", api.ErrLine, 1},
		{half, one, "cut 9:0 1:1/3\n", api.ErrLine, 1},
		{half, one, "end 9:0 1:1/3", api.ErrLine, 1},
		{half, one, "cut 9:0 1:1/3\nend x\n", api.ErrRow, 1},
		{half, one, "cut 1:0 9:1 1:1/3\nend x\n", api.ErrFactor, 1},
		{half, one, "cut 1:1/3 9:0\nend x\n", api.ErrRow, 1},
		{half, one, "cut 1:1/3 1:-1\nend x\n", api.ErrFactor, 1},
		{half, one, "cut 1:1/3\nend x\n", api.ErrWhole, 1},
		{half, one, "cut 1:1/2\ncut 1:1/3\nend x\n", api.ErrWhole, 2},
		{half, one, "cut 1:1/2\ncut 4:1\nend x\n", api.ErrLine, 3},
		{half, one, "end 9:0\n", api.ErrRow, 1},
		{half, one, "end 1:0 9:1\n", api.ErrFactor, 1},
		{half, one, "end 1:1/3\n", api.ErrEnd, 1},
	} {
		checkAudit(t, c)
	}
}

// TestAuditProblem: what Plain says of a problem, Audit says.
func TestAuditProblem(t *testing.T) {
	for _, problem := range []string{
		"", "\n", "vars 1", "vars 1\n", "vars 5\n", text("vars 1", "max 1"), text("vars 1", "max 1", "range 0 9"), text("vars 2", "max 1 1", "range 0 7", "range 0 8"),
		text("vars 1", "max 1", "range 0 1", "row 1 < 1"), halfProblem() + "\n", halfProblem()[:len(halfProblem())-1], strings.Repeat("\n", api.MaxText), strings.Repeat("\n", api.MaxText+1),
	} {
		_, e, line := planes.Plain(problem)
		if e == api.OK {
			t.Errorf("%q is right", problem)
		}
		checkAudit(t, auditCase{problem, greatest("1", "1"), "end 1:1/2\n", e, line})
		checkAudit(t, auditCase{problem, noPoint(), "", e, line})
	}
}

func TestAuditVerdict(t *testing.T) {
	wrong := []api.Verdict{greatest("1"), greatest("1", "1", "1"), greatest("1", "1", ""), greatest("", "1"), {Kind: api.Greatest, Value: "1"}}
	for _, kind := range []int{0, api.Limit, 4, -1, -2, math.MaxInt, math.MinInt, 1 << 32, 1<<32 + 1, 1<<32 + 2} {
		wrong = append(wrong, api.Verdict{Kind: kind, Point: []string{"1"}, Value: "1"})
	}
	for _, number := range []string{"", "-", "+1", "--1", "1-", " 1", "1 ", "1\n", "x", "1/1", "2/2", "1/", "1.0", "1e0", "0x1", "１", "\xff", strings.Repeat("0", 100) + "1", "-" + strings.Repeat("1", 101)} {
		wrong = append(wrong, greatest(number, "1"), greatest("1", number), greatest(number, number))
	}
	wrong = append(wrong, api.Verdict{Kind: api.Greatest, Point: make([]string, 1<<20), Value: "1"})
	for _, v := range wrong {
		checkAudit(t, auditCase{halfProblem(), v, "end 1:1/2\n", api.ErrVerdict, 0})
		checkAudit(t, auditCase{halfProblem(), v, "", api.ErrVerdict, 0})
	}
	for _, point := range [][]string{nil, {"0"}, {"0", "0", "-1"}, {"0", "0", "-1", "x"}, {"x", "0", "-1", "2"}, {"0", "0", "-1", "2", "0"}} {
		checkAudit(t, auditCase{wideProblem(), greatest("8", point...), "end 5:2 8:1 11:3\n", api.ErrVerdict, 0})
	}
}

func TestAuditPoint(t *testing.T) {
	problem := text("vars 2", "max 3 -2", "range -1 4", "range 0 5", "row 1 1 <= 6", "row 1 -1 >= -4", "row 2 1 = 6")
	meet := map[[2]string]string{{"1", "4"}: "-5", {"2", "2"}: "2", {"3", "0"}: "9"}
	for point, value := range meet {
		checkAudit(t, auditCase{problem, greatest(value, point[0], point[1]), "end\n", api.ErrEnd, 1})
		for _, other := range []string{"0", "1", "-2", "-9", "5", value + "0", strings.Repeat("9", 100), "-" + strings.Repeat("9", 100)} {
			checkAudit(t, auditCase{problem, greatest(other, point[0], point[1]), "end\n", api.ErrPoint, 0})
		}
	}
	hundred := strings.Repeat("7", 100)
	for _, c := range [][3]string{
		{"1", "3", "-3"}, {"1", "5", "-7"}, {"4", "-2", "16"}, {"0", "6", "-12"}, {"5", "-4", "23"}, {"0", "0", "0"}, {"2", "3", "0"}, {"-1", "0", "-3"}, {"1", hundred, "0"}, {"-" + hundred, "0", hundred},
	} {
		checkAudit(t, auditCase{problem, greatest(c[2], c[0], c[1]), "end\n", api.ErrPoint, 0})
	}
	for _, c := range []struct {
		row    string
		meets  []string
		breaks []string
	}{
		{"row 1 <= 1", []string{"-2", "0", "1"}, []string{"2", "3", "-3", "4"}},
		{"row 1 >= 1", []string{"1", "2", "3"}, []string{"0", "-2", "4"}},
		{"row 1 = 1", []string{"1"}, []string{"0", "2", "-1"}},
		{"row -2 <= -3", []string{"2", "3"}, []string{"1", "-2"}},
		{"row 0 <= -1", nil, []string{"0", "1"}},
		{"row 0 >= 0", []string{"-2", "3"}, []string{"-3", "4"}},
	} {
		one := text("vars 1", "max 1", "range -2 3", c.row)
		for _, x := range c.meets {
			checkAudit(t, auditCase{one, greatest(x, x), "", api.ErrLine, 1})
		}
		for _, x := range c.breaks {
			checkAudit(t, auditCase{one, greatest(x, x), "", api.ErrPoint, 0})
		}
	}
	checkAudit(t, auditCase{text("vars 1", "max 1", "range 2 1"), greatest("1", "1"), "end 1:1\n", api.ErrPoint, 0})
	checkAudit(t, auditCase{text("vars 1", "max 1", "range 2 1"), greatest("2", "2"), "end 1:1\n", api.ErrPoint, 0})
}

// TestAuditLong: logs of just as many bytes as may be, and of one more.
func TestAuditLong(t *testing.T) {
	half, one := halfProblem(), greatest("1", "1")
	fill := func(head, tail string) string {
		return head + strings.Repeat("0", api.MaxLog-len(head)-len(tail)) + tail
	}
	for _, c := range []auditCase{
		{half, one, fill("end ", "1:1/2\n"), api.OK, 0},
		{half, one, fill("end 1:", "1/2\n"), api.OK, 0},
		{half, one, fill("end 1:1/", "2\n"), api.OK, 0},
		{half, one, fill("cut 1:1/2\nend 4:", "1\n"), api.OK, 0},
		{half, one, fill("end 1", ":1/2\n"), api.ErrRow, 1},
		{half, one, fill("end 1:1", "/2\n"), api.ErrEnd, 1},
		{half, one, fill("end 1:1/2", "\n"), api.ErrEnd, 1},
		{half, one, fill("end 1:-", "\n"), api.ErrFactor, 1},
		{half, one, fill("end 1:1/", "\n"), api.ErrLine, 1},
		{half, one, fill("cut 1:1/2", "\nend 1:1/2\n"), api.ErrWhole, 1},
		{half, one, strings.Repeat("cut\n", (api.MaxLog-12)/4) + "end  1:1/2 \n", api.ErrLine, (api.MaxLog-12)/4 + 1},
		{half, one, strings.Repeat("cut\n", (api.MaxLog-12)/4) + "end 1:01/02\n", api.OK, 0},
		{half, one, strings.Repeat("cut\n", api.MaxLog/4), api.ErrLine, api.MaxLog / 4},
		{half, one, strings.Repeat("\n", api.MaxLog), api.ErrLine, 1},
		{half, one, strings.Repeat("x", api.MaxLog), api.ErrLine, 1},
	} {
		if len(c.log) != api.MaxLog {
			t.Fatalf("%.40q has %d bytes", c.log, len(c.log))
		}
		checkAudit(t, c)
		checkAudit(t, auditCase{c.problem, c.v, c.log + "\n", api.ErrLong, 0})
		checkAudit(t, auditCase{c.problem, c.v, "0" + c.log, api.ErrLong, 0})
	}
	checkAudit(t, auditCase{half, one, strings.Repeat("end 1:1/2\n", 1<<20), api.ErrLong, 0})
}

func TestAuditLine(t *testing.T) {
	half, one := halfProblem(), greatest("1", "1")
	wrong := []string{
		"", " ", "x", "ends 1:1/2", "en", "End", "END 1:1/2", " end 1:1/2", "end  1:1/2", "end 1:1/2 ", "end\t1:1/2", "end 1:1/2\r", "end 1:1/2  1:1/2", "end1:1/2", "1:1/2", "row 1:1/2",
		"end 1", "end :", "end :1", "end 1:", "end 1:1:1", "end 1::1", "end -1:1", "end -0:1", "end +1:1", "end 1/1:1", "end 2/2:1", "end x:1", "end 1 :1", "end 1: 1", "end 1,1", "end 1=1",
		"end 1:x", "end 1:+1", "end 1:--1", "end 1:-", "end 1:1/0", "end 1:0/0", "end 1:1/000", "end 1:/2", "end 1:1/", "end 1:1/-2", "end 1:1/2/1", "end 1:0.5", "end 1:1e1", "end 1:½", "end 1:1/2\x00",
		"end 1:1/2 end", "end end", "end 1:1/2 1:x", "end 9:1 1:x", "end 1:0 1:x", "end 1:1/3 x",
	}
	for _, last := range wrong {
		cut := strings.Replace(last, "end", "cut", 1)
		checkAudit(t, auditCase{half, one, last + "\n", api.ErrLine, 1})
		checkAudit(t, auditCase{half, one, "cut\ncut 1:1/2\n" + last + "\n", api.ErrLine, 3})
		checkAudit(t, auditCase{half, one, cut + "\nend 1:1/2\n", api.ErrLine, 1})
		checkAudit(t, auditCase{half, one, "cut 1:1/2\n" + cut + "\nend 9:9\n", api.ErrLine, 2})
	}
	for _, c := range []auditCase{
		{half, one, "", api.ErrLine, 1},
		{half, one, "end 1:1/2", api.ErrLine, 1},
		{half, one, "end 1:1/2\n\n", api.ErrLine, 1},
		{half, one, "end 1:1/2\nend 1:1/2\n", api.ErrLine, 1},
		{half, one, "end 1:1/2\ncut\n", api.ErrLine, 1},
		{half, one, "end 1:1/2\n ", api.ErrLine, 1},
		{half, one, "cut", api.ErrLine, 1},
		{half, one, "cut 1:1/2\n", api.ErrLine, 1},
		{half, one, "cut\ncut 1:1/2\n", api.ErrLine, 2},
		{half, one, "cut\nend 1:1/2", api.ErrLine, 2},
		{half, one, "cut\nend 1:1/2\nend 1:1/2", api.ErrLine, 2},
		{half, one, "cut 9:1\nend", api.ErrRow, 1},
		{half, one, "cut\r\nend 1:1/2\r\n", api.ErrLine, 1},
	} {
		checkAudit(t, c)
		c.v = noPoint()
		checkAudit(t, c)
	}
}

func TestAuditRow(t *testing.T) {
	half, one := halfProblem(), greatest("1", "1")
	beyond := []string{"0", "00", "4", "5", "99", "4294967297", "9223372036854775809", "18446744073709551617", "340282366920938463463374607431768211457", strings.Repeat("9", 5000), "1" + strings.Repeat("0", 5000)}
	for _, number := range beyond {
		checkAudit(t, auditCase{half, one, "end " + number + ":1\n", api.ErrRow, 1})
		checkAudit(t, auditCase{half, one, "end 1:1/2 " + number + ":0\n", api.ErrRow, 1})
		checkAudit(t, auditCase{half, one, "cut " + number + ":1\nend 1:1/2\n", api.ErrRow, 1})
	}
	for _, c := range []auditCase{
		{half, one, "cut 1:1/2\nend 4:1\n", api.OK, 0},
		{half, one, "cut 1:1/2\nend 5:1\n", api.ErrRow, 2},
		{half, one, "cut 1:1/2\ncut 5:1\nend 4:1\n", api.ErrRow, 2},
		{half, one, "cut 1:1/2\ncut 4:1\nend 5:1\n", api.OK, 0},
		{half, one, "cut 1:1/2\ncut 4:1\nend 6:1\n", api.ErrRow, 3},
		{half, one, "cut\nend 4:1 1:1/2\n", api.OK, 0},
	} {
		checkAudit(t, c)
	}
	wide, v := wideProblem(), greatest("8", "1", "0", "-1", "2")
	for _, c := range []auditCase{
		{wide, v, "end 12:1 13:1\n", api.ErrRow, 1},
		{wide, v, "end 12:1\n", api.ErrEnd, 1},
		{wide, v, "cut 12:1\nend 13:1\n", api.ErrEnd, 2},
		{wide, v, "cut 12:1\nend 14:1\n", api.ErrRow, 2},
	} {
		checkAudit(t, c)
	}
}

// TestAuditNumbers: each row has the number that the document gives it. What
// a row is, shows in a problem whose `max` are its coefficients, with a point
// at which it just holds.
func TestAuditNumbers(t *testing.T) {
	const rows = "row 1 2 <= 3\nrow 1 -2 >= -3\nrow 0 1 = 1\nrow 2 0 <= 2\n"
	for i, c := range []struct{ max, value, first, second string }{
		{"1 2", "3", "1", "1"},
		{"-1 2", "3", "-1", "1"},
		{"0 1", "1", "0", "1"},
		{"0 -1", "-1", "0", "1"},
		{"2 0", "2", "1", "1"},
		{"1 0", "1", "1", "1"},
		{"-1 0", "1", "-1", "1"},
		{"0 1", "1", "0", "1"},
		{"0 -1", "-1", "0", "1"},
	} {
		problem := "vars 2\nmax " + c.max + "\nrange -1 1\nrange 1 1\n" + rows
		number := string(rune('1' + i))
		checkAudit(t, auditCase{problem, greatest(c.value, c.first, c.second), "end " + number + ":1\n", api.OK, 0})
		checkAudit(t, auditCase{problem, greatest(c.value, c.first, c.second), "cut " + number + ":1\nend 10:1\n", api.OK, 0})
	}
}

func TestAuditFactor(t *testing.T) {
	half, one := halfProblem(), greatest("1", "1")
	for _, factor := range []string{"0", "-0", "00", "0/7", "-0/7", "-1", "-1/2", "-2/4", "-001/2", "-" + strings.Repeat("1", 3000), "-1/" + strings.Repeat("1", 3000), strings.Repeat("0", 3000)} {
		checkAudit(t, auditCase{half, one, "end 1:" + factor + "\n", api.ErrFactor, 1})
		checkAudit(t, auditCase{half, one, "end 1:1/2 2:" + factor + "\n", api.ErrFactor, 1})
		checkAudit(t, auditCase{half, one, "end 1:" + factor + " 9:1\n", api.ErrFactor, 1})
		checkAudit(t, auditCase{half, one, "cut 1:1/2\ncut 3:" + factor + " 1:1/3\nend x\n", api.ErrFactor, 2})
	}
	// Turned signs would show whatever one likes: here, that no point is there.
	checkAudit(t, auditCase{half, noPoint(), "end 1:1 1:-2 2:2\n", api.ErrFactor, 1})
}

func TestAuditWhole(t *testing.T) {
	wide, v := wideProblem(), greatest("8", "1", "0", "-1", "2")
	for _, number := range []string{"1", "2", "5", "7", "9", "11", "12"} {
		for _, factor := range []string{"1/2", "7/3", "1/" + strings.Repeat("9", 3000)} {
			checkAudit(t, auditCase{wide, v, "cut " + number + ":" + factor + "\nend 5:2 8:1 11:3\n", api.ErrWhole, 1})
			checkAudit(t, auditCase{wide, v, "cut\nend 5:2 8:1 11:3 " + number + ":" + factor + "\n", api.ErrEnd, 2})
		}
		checkAudit(t, auditCase{wide, v, "cut " + number + ":1/2 " + number + ":1/2\nend 5:2 8:1 11:3\n", api.OK, 0})
	}
	// Of 0 x at most 1/2 all coefficients are whole.
	checkAudit(t, auditCase{wide, v, "cut 5:1/2 6:1/2\nend 5:2 8:1 11:3\n", api.OK, 0})
}

// TestAuditEnd: what the last line makes must be all that it must be.
func TestAuditEnd(t *testing.T) {
	wide, v := wideProblem(), greatest("8", "1", "0", "-1", "2")
	for _, log := range []string{
		"end\n", "end 5:2 8:1\n", "end 5:2 8:1 11:2\n", "end 5:2 8:1 11:3 9:1\n", "end 5:2 8:1 11:3 12:1\n", "end 5:4 8:2 11:6\n", "end 5:1 8:1/2 11:3/2\n",
		"end 5:2 8:1 11:3 5:1 6:1\n", "end 5:2 8:1 11:3 1:1/9\n",
	} {
		checkAudit(t, auditCase{wide, v, log, api.ErrEnd, 1})
	}
	slack := text("vars 1", "max 1", "range -4 3", "row 2 <= 3", "row 3 <= 2")
	for _, c := range []auditCase{
		{slack, greatest("1", "1"), "end 1:1/2\n", api.ErrPoint, 0},
		{slack, greatest("0", "0"), "end 2:1/3\n", api.OK, 0},
		{slack, greatest("0", "0"), "end 1:1/2\n", api.ErrEnd, 1},
		{slack, greatest("0", "0"), "end 3:1\n", api.ErrEnd, 1},
		{slack, greatest("-1", "-1"), "end 2:1/3\n", api.ErrEnd, 1},
		{slack, noPoint(), "end 3:1 4:1\n", api.ErrEnd, 1},
		{slack, noPoint(), "end\n", api.ErrEnd, 1},
		{slack, noPoint(), "end 2:1/3\n", api.ErrEnd, 1},
	} {
		checkAudit(t, c)
	}
	// A sum that is below 0 shows nothing where a coefficient is left over.
	below := text("vars 2", "max 0 0", "range 0 2", "range 0 2", "row 1 1 <= -1")
	for _, c := range []auditCase{
		{below, noPoint(), "end 1:1\n", api.ErrEnd, 1},
		{below, noPoint(), "end 1:1 3:1\n", api.ErrEnd, 1},
		{below, noPoint(), "end 1:1 5:1\n", api.ErrEnd, 1},
		{below, noPoint(), "end 1:1 3:1 5:1\n", api.OK, 0},
		{below, noPoint(), "end 1:1/9 3:1/9 5:1/9\n", api.OK, 0},
	} {
		checkAudit(t, c)
	}
}

// TestAuditFloor: the floor is taken of each cut, and of what is below 0 it is
// the one away from 0.
func TestAuditFloor(t *testing.T) {
	problem := func(row string) string { return text("vars 1", "max 2", "range -4 3", row) }
	for _, c := range []struct{ row, x, value string }{
		{"row 2 <= 3", "1", "2"}, {"row 2 <= 2", "1", "2"}, {"row 2 <= 1", "0", "0"}, {"row 2 <= 0", "0", "0"},
		{"row 2 <= -1", "-1", "-2"}, {"row 2 <= -2", "-1", "-2"}, {"row 2 <= -3", "-2", "-4"}, {"row 2 <= -4", "-2", "-4"}, {"row 2 <= -7", "-4", "-8"},
		{"row -2 >= 3", "-2", "-4"}, {"row -2 >= -3", "1", "2"},
	} {
		checkAudit(t, auditCase{problem(c.row), greatest(c.value, c.x), "cut 1:1/2\nend 4:2\n", api.OK, 0})
	}
	checkAudit(t, auditCase{problem("row 2 <= 3"), greatest("2", "1"), "end 1:1\n", api.ErrEnd, 1})
	checkAudit(t, auditCase{problem("row 2 <= -3"), greatest("-4", "-2"), "end 1:1\n", api.ErrEnd, 1})
	// Were the floor left out, the end would make 3: above the value.
	checkAudit(t, auditCase{problem("row 2 <= 3"), greatest("2", "1"), "cut 1:1/2\ncut 4:3\nend 5:2/3\n", api.OK, 0})
}

// TestAuditLongNumbers: numbers of a log may have any number of digits, and
// what comes of them many more.
func TestAuditLongNumbers(t *testing.T) {
	half, one := halfProblem(), greatest("1", "1")
	great := "1" + strings.Repeat("0", 4000)
	for _, c := range []auditCase{
		{half, one, "end 1:" + great + "/2" + great[1:] + "\n", api.OK, 0},
		{half, one, "end 1:" + great + "1/2" + great[1:] + "2\n", api.OK, 0},
		{half, one, "end 1:" + great + "1/2" + great[1:] + "1\n", api.ErrEnd, 1},
		{half, one, "end 1:" + great + "1/2" + great[1:] + "3\n", api.ErrEnd, 1},
		{half, one, "cut 1:" + great + "\ncut 4:" + great + "\nend 5:1/2" + great[1:] + great[1:] + "\n", api.OK, 0},
		{half, one, "cut 1:" + great + "\ncut 4:" + great + "\nend 5:1/2" + great[1:] + great[2:] + "\n", api.ErrEnd, 3},
		{half, noPoint(), "end 1:1/" + great + "1 1:1/" + great + "3\n", api.ErrEnd, 1},
	} {
		checkAudit(t, c)
	}
}

// TestAuditAlone: the answers are the same in another order, and with other
// calls under way; and a list that is handed in stays as it was, what lies
// behind its end too.
func TestAuditAlone(t *testing.T) {
	cases := auditShown()
	for _, c := range auditShown() {
		cases = append(cases, auditCase{c.problem, c.v, c.log[:len(c.log)-1], api.ErrLine, strings.Count(c.log, "\n")})
	}
	for i := range cases {
		room := append(slices.Clone(cases[i].v.Point), "beyond")
		cases[i].v.Point = room[:len(room)-1]
	}
	var group sync.WaitGroup
	for worker := range 8 {
		group.Go(func() {
			for i := range 20 * len(cases) {
				c := cases[(i*7+worker)%len(cases)]
				if e, line := planes.Audit(c.problem, c.v, c.log); e != c.e || line != c.line {
					t.Errorf("P2: Audit(%.200q, %.100v, %.200q) = %d, %d", c.problem, c.v, c.log, e, line)
					return
				}
			}
		})
	}
	group.Wait()
	for i, c := range append(auditShown(), auditShown()...) {
		room := cases[i].v.Point[:len(c.v.Point)+1]
		if !slices.Equal(room[:len(c.v.Point)], c.v.Point) || room[len(c.v.Point)] != "beyond" {
			t.Errorf("P2: the point is now %q", room)
		}
	}
}
