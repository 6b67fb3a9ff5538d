package planes_test

import (
	"math/big"
	"math/rand"
	"regexp"
	"slices"
	"strconv"
	"strings"
	"sync"
	"testing"

	"planes/api"
	"planes/planes"
)

func text(lines ...string) string { return strings.Join(lines, "\n") + "\n" }

type plainCase struct {
	problem string
	want    string
	e       api.Errno
	line    int
}

func checkPlain(t *testing.T, c plainCase) {
	t.Helper()
	if got, e, line := planes.Plain(c.problem); got != c.want || e != c.e || line != c.line {
		t.Errorf("P4: Plain(%.200q) = %.200q, %d, %d, want %.200q, %d, %d", c.problem, got, e, line, c.want, c.e, c.line)
	}
}

// longest is a problem of all the variables and rows that may be, each number
// of as many bytes as it may have.
func longest() string {
	most := "-" + strings.Repeat("9", api.MaxDigits)
	lines := []string{"vars 4", "max" + strings.Repeat(" "+most, 4)}
	for range api.MaxVars {
		lines = append(lines, "range "+most+" "+most)
	}
	for range api.MaxRows {
		lines = append(lines, "row"+strings.Repeat(" "+most, 4)+" <= "+most)
	}
	return text(lines...)
}

// plainTexts are problems in plain form.
func plainTexts() []string {
	nines := strings.Repeat("9", api.MaxDigits-1)
	return []string{
		text("vars 2", "max 5 4", "range 0 5", "range 0 5", "row 6 4 <= 24", "row 1 2 <= 6"),
		text("vars 1", "max 0", "range 0 1", "row 2 = 1"),
		text("vars 1", "max -1", "range 0 0"),
		text("vars 3", "max 0 0 0", "range -7 0", "range 7 7", "range -3 4", "row 0 0 0 >= -5"),
		text("vars 4", "max 1 -2 3 -4", "range 0 1", "range 1 2", "range 2 3", "range 3 4", "row 1 2 3 4 >= 5", "row 1 2 3 4 = 5"),
		text("vars 1", "max 1", "range 1 0"),
		text("vars 1", "max 1", "range 99 -99"),
		text("vars 1", "max 1", "range "+nines+"0 "+nines+"7"),
		text("vars 1", "max 1", "range -"+nines+"7 -"+nines+"0"),
		text("vars 1", "max 1", "range "+nines+"9 -"+nines+"9"),
		text("vars 1", "max 18446744073709551616", "range 4294967296 4294967303", "row -18446744073709551616 = 4294967295"),
		longest(),
	}
}

func TestPlainStays(t *testing.T) {
	for _, problem := range plainTexts() {
		checkPlain(t, plainCase{problem, problem, api.OK, 0})
	}
}

func TestPlainForm(t *testing.T) {
	noughts := strings.Repeat("0", api.MaxDigits)
	for _, c := range [][2]string{
		{text("vars 1", "max -0", "range -00 007"), text("vars 1", "max 0", "range 0 7")},
		{text("vars 1", "max -"+noughts, "range -"+noughts+" "+noughts), text("vars 1", "max 0", "range 0 0")},
		{text("vars 2", "max 01 -010", "range -05 -04", "range 0 0", "row -0 00 <= -00", "row 001 -100 >= 0100", "row 10 -01 = -0000200"),
			text("vars 2", "max 1 -10", "range -5 -4", "range 0 0", "row 0 0 <= 0", "row 1 -100 >= 100", "row 10 -1 = -200")},
		{text("vars 1", "max 0", "range "+noughts[1:]+"2 "+noughts[1:]+"9"), text("vars 1", "max 0", "range 2 9")},
	} {
		checkPlain(t, plainCase{c[0], c[1], api.OK, 0})
	}
}

func TestPlainLong(t *testing.T) {
	whole := longest()
	lines := strings.Count(whole, "\n")
	for _, c := range []plainCase{
		{whole + strings.Repeat("\n", api.MaxText-len(whole)), "", api.ErrLine, lines + 1},
		{whole + strings.Repeat("\n", api.MaxText+1-len(whole)), "", api.ErrLong, 0},
		{whole + strings.Repeat("0", api.MaxText-len(whole)), "", api.ErrLine, lines + 1},
		{strings.Repeat("x", api.MaxText), "", api.ErrLine, 1},
		{strings.Repeat("x", api.MaxText+1), "", api.ErrLong, 0},
		{text("vars 1", "max 1", "range 0 8") + strings.Repeat("y", api.MaxText), "", api.ErrLong, 0},
		{strings.Repeat("row ", 1<<20), "", api.ErrLong, 0},
		{strings.Repeat("\n", 1<<20), "", api.ErrLong, 0},
		{strings.Repeat("\xff", api.MaxText+1), "", api.ErrLong, 0},
	} {
		checkPlain(t, c)
	}
}

func TestPlainWrongLine(t *testing.T) {
	head := []string{"vars 2", "max 5 4", "range 0 5", "range 0 5"}
	wrong := map[int][]string{
		1: {"", "vars", "vars ", "vars 0", "vars 5", "vars 9", "vars -1", "vars 02", "vars 12", "vars 2 2", "vars a", "vars +", "vars :", "vars 2\r",
			" vars 2", "vars  2", "vars 2 ", "vars\t2", "var 2", "VARS 2", "vars2", "2", "max 5 4", "vars ２"},
		2: {"", "max", "max ", "max 5", "max 5 4 3", "max 5  4", "max 5 4 ", " max 5 4", "max 5 ", "max 5 x", "max 5 +4", "max 5 --4", "max 5 -", "max 5 4-",
			"max 5 4/1", "max 5 8/2", "max 5 4.", "max 5 0x4", "max 5 4\r", "max 5\t4", "Max 5 4", "min 5 4", "vars 2", "range 0 5", "row 5 4 <= 4",
			"max 5 " + strings.Repeat("4", 41), "max 5 -" + strings.Repeat("0", 41)},
		3: {"", "range", "range 0", "range 0 5 5", "range  0 5", "range 0  5", "range 0 5 ", " range 0 5", "range 0 x", "range x 5", "range 0 5/1", "range 0/1 5",
			"ranges 0 5", "Range 0 5", "max 5 4", "row 6 4 <= 24", "range 0 +5", "range 0 <= 5", "range 0-5", "range 0 " + strings.Repeat("0", 41)},
		4: {"", "row 6 4 <= 24", "range 0", "range 5 0 0", "vars 2", "end"},
		5: {"", "row", "row 6", "row 6 4", "row 6 4 <=", "row 6 4 <= ", "row 6 4 24", "row 6 <= 24", "row 6 4 3 <= 24", "row 6 4 <= 24 1", "row 6 4 < 24", "row 6 4 > 24",
			"row 6 4 == 24", "row 6 4 =< 24", "row 6 4 => 24", "row 6 4 <=24", "row 6 4<= 24", "row <= 6 4 24", "row 6 <= 4 24", "row 6 4 <= 24/1", "row 6/2 4 <= 24",
			"row 6 4 <= x", "row 6 x <= 24", "row  6 4 <= 24", "row 6 4  <= 24", "row 6 4 <= 24 ", " row 6 4 <= 24", "rows 6 4 <= 24", "ROW 6 4 <= 24", "row 6 4 ≤ 24",
			"range 0 5", "max 5 4", "vars 2", "end", "row 6 4 <= <=", "row 6 4 <= " + strings.Repeat("1", 41), "row 6 " + strings.Repeat("0", 41) + " <= 1", "row 6 4 <= 24\x00"},
	}
	for at, all := range wrong {
		for _, line := range all {
			lines := append(slices.Clone(head), "row 6 4 <= 24")
			lines[at-1] = line
			checkPlain(t, plainCase{text(lines...), "", api.ErrLine, at})
			checkPlain(t, plainCase{text(append(lines, "what follows", "")...), "", api.ErrLine, at})
		}
	}
}

func TestPlainMissingAndUnended(t *testing.T) {
	lines := []string{"vars 3", "max 5 4 3", "range 0 5", "range 0 5", "range 0 5", "row 6 4 2 <= 24", "row 1 2 3 >= 6"}
	const needed = 5
	checkPlain(t, plainCase{"", "", api.ErrLine, 1})
	for count := 1; count <= len(lines); count++ {
		some := text(lines[:count]...)
		checkPlain(t, plainCase{some[:len(some)-1], "", api.ErrLine, count})
		if count < needed {
			checkPlain(t, plainCase{some, "", api.ErrLine, count + 1})
		} else {
			checkPlain(t, plainCase{some, some, api.OK, 0})
			checkPlain(t, plainCase{some + "\n", "", api.ErrLine, count + 1})
			checkPlain(t, plainCase{some + " ", "", api.ErrLine, count + 1})
		}
	}
}

func TestPlainRows(t *testing.T) {
	for n := 1; n <= api.MaxVars; n++ {
		head := "vars " + strconv.Itoa(n) + "\nmax" + strings.Repeat(" 1", n) + "\n" + strings.Repeat("range 0 1\n", n)
		row := "row" + strings.Repeat(" 1", n) + " >= 0\n"
		for rows := range api.MaxRows + 1 {
			problem := head + strings.Repeat(row, rows)
			checkPlain(t, plainCase{problem, problem, api.OK, 0})
		}
		for rows := api.MaxRows + 1; rows < api.MaxRows+9; rows++ {
			checkPlain(t, plainCase{head + strings.Repeat(row, rows), "", api.ErrLine, 2 + n + api.MaxRows + 1})
		}
	}
}

func TestPlainWidth(t *testing.T) {
	nines := strings.Repeat("9", api.MaxDigits)
	rows := "row 1 1 1 <= 5\n"
	problem := func(first, second, third string) string {
		return text("vars 3", "max 1 1 1", "range "+first, "range "+second, "range "+third)
	}
	for _, c := range []plainCase{
		{problem("0 8", "0 8", "0 8"), "", api.ErrWidth, 3},
		{problem("0 7", "0 8", "0 9"), "", api.ErrWidth, 4},
		{problem("0 7", "-4 3", "-4 4") + rows, "", api.ErrWidth, 5},
		{problem("8 0", "99 0", "-8 0"), "", api.ErrWidth, 5},
		{problem("-"+nines+" "+nines, "0 0", "0 0"), "", api.ErrWidth, 3},
		{problem("-4294967296 0", "0 0", "0 0"), "", api.ErrWidth, 3},
		{problem("0 18446744073709551616", "0 0", "0 0"), "", api.ErrWidth, 3},
		{problem("0 8", "0 8", "0 8") + rows + "row\n", "", api.ErrLine, 7},
		{problem("0 8", "0 8", "0 8") + rows + rows[:len(rows)-1], "", api.ErrLine, 7},
		{problem("0 8", "0 8", "0 8") + strings.Repeat(rows, api.MaxRows+1), "", api.ErrLine, 12},
		{text("vars 3", "max 1 1 1", "range 0 8", "range 0 8"), "", api.ErrLine, 5},
		{problem("0 7", "-7 0", "-3 4"), problem("0 7", "-7 0", "-3 4"), api.OK, 0},
		{problem("1 0", "8 0", nines+" -"+nines), problem("1 0", "8 0", nines+" -"+nines), api.OK, 0},
	} {
		checkPlain(t, c)
	}
}

// lineShapes are, for each number of variables, the shapes of the first line,
// of the second, of a range and of a row.
var lineShapes = sync.OnceValue(func() (shapes [5][4]*regexp.Regexp) {
	const number = ` -?[0-9]{1,40}`
	for n := range shapes {
		numbers := strings.Repeat(number, n)
		for i, shape := range []string{`vars [1-4]`, `max` + numbers, `range` + number + number, `row` + numbers + ` (<=|>=|=)` + number} {
			shapes[n][i] = regexp.MustCompile(`\A` + shape + `\n\z`)
		}
	}
	return shapes
})

// plainByShape says by itself, apart from the program, what Plain must answer.
func plainByShape(problem string) plainCase {
	if len(problem) > api.MaxText {
		return plainCase{problem, "", api.ErrLong, 0}
	}
	n, tooWide, want := 0, 0, ""
	lines := strings.SplitAfter(problem, "\n")
	if lines[len(lines)-1] == "" {
		lines = lines[:len(lines)-1]
	}
	for i, line := range lines {
		kind := min(i, 2)
		if i >= 2 && i >= 2+n {
			kind = 3
		}
		if i == 2+n+6 || !lineShapes()[n][kind].MatchString(line) {
			return plainCase{problem, "", api.ErrLine, i + 1}
		}
		words := strings.Split(strings.TrimSuffix(line, "\n"), " ")
		if words[0] == "vars" {
			n = int(line[len(line)-2] - '0')
		}
		if words[0] == "range" && tooWide == 0 && isTooWide(words[1], words[2]) {
			tooWide = i + 1
		}
		for k, word := range words {
			if value, ok := new(big.Int).SetString(word, 10); ok {
				words[k] = value.String()
			}
		}
		want += strings.Join(words, " ") + "\n"
	}
	switch {
	case len(lines) < 2 || len(lines) < 2+n:
		return plainCase{problem, "", api.ErrLine, len(lines) + 1}
	case tooWide > 0:
		return plainCase{problem, "", api.ErrWidth, tooWide}
	}
	return plainCase{problem, want, api.OK, 0}
}

func isTooWide(low, high string) bool {
	l, _ := new(big.Int).SetString(low, 10)
	h, _ := new(big.Int).SetString(high, 10)
	return h.Sub(h, l).Cmp(big.NewInt(7)) > 0
}

// TestPlainNear goes through every text that is one byte away from a problem.
func TestPlainNear(t *testing.T) {
	for _, problem := range []string{
		text("vars 2", "max 05 -4", "range 0 7", "range -0 5", "row 6 04 <= 24", "row 1 -2 = 6", "row 1 1 >= 0"),
		text("vars 1", "max 1", "range 3 10"),
		text("vars 1", "max 1", "range 0 9", "row 1 <= 2"),
	} {
		for at := range len(problem) + 1 {
			checkPlain(t, plainByShape(problem[:at]))
			for _, letter := range "0179-+/ <=>\n\r\tavx\x00\u00a0" {
				checkPlain(t, plainByShape(problem[:at]+string(letter)+problem[at:]))
				if at < len(problem) {
					checkPlain(t, plainByShape(problem[:at]+string(letter)+problem[at+1:]))
				}
			}
			if at < len(problem) {
				checkPlain(t, plainByShape(problem[:at]+problem[at+1:]))
			}
		}
	}
}

// someLine is a line that may stand in a problem of n variables, most often
// where it is asked for.
func someLine(r *rand.Rand, n, at int) string {
	if r.Intn(40) == 0 {
		at = r.Intn(3 + n)
	}
	if r.Intn(60) == 0 {
		n++
	}
	number := func() string {
		value := []string{"0", "-0", "1", "-2", "007", "-03", "5", "12", strings.Repeat("8", 40)}
		return " " + value[r.Intn(len(value)-r.Intn(2))]
	}
	numbers := ""
	for range n {
		numbers += number()
	}
	switch {
	case at == 0:
		return "vars " + strconv.Itoa(n) + "\n"
	case at == 1:
		return "max" + numbers + "\n"
	case at < 2+n:
		low := r.Intn(10) - 5
		return "range " + strconv.Itoa(low) + " 0" + strconv.Itoa(max(low, 0)+r.Intn(9)) + "\n"
	}
	return "row" + numbers + " " + []string{"<=", ">=", "="}[r.Intn(3)] + number() + "\n"
}

func someProblem(r *rand.Rand) string {
	n := 1 + r.Intn(api.MaxVars)
	problem := ""
	for at := range 2 + n + r.Intn(api.MaxRows+2) - r.Intn(2)*r.Intn(2) {
		problem += someLine(r, n, at)
	}
	return problem
}

func TestPlainDrawn(t *testing.T) {
	r := rand.New(rand.NewSource(11))
	seen := map[api.Errno]int{}
	for range 20000 {
		want := plainByShape(someProblem(r))
		seen[want.e]++
		checkPlain(t, want)
		if t.Failed() {
			return
		}
		if want.e == api.OK {
			checkPlain(t, plainCase{want.want, want.want, api.OK, 0})
		}
	}
	if min(seen[api.OK], seen[api.ErrLine], seen[api.ErrWidth]) < 1000 {
		t.Errorf("what was drawn is of too few kinds: %v", seen)
	}
}

// TestPlainAlone: the answers are the same in another order, and with other
// calls under way.
func TestPlainAlone(t *testing.T) {
	cases := []plainCase{plainByShape("vars 1\n"), plainByShape("vars 1\nmax 1\nrange 0 8\n"), plainByShape("")}
	for _, problem := range plainTexts() {
		cases = append(cases, plainCase{problem, problem, api.OK, 0})
	}
	var group sync.WaitGroup
	for worker := range 8 {
		group.Go(func() {
			for i := range 20 * len(cases) {
				c := cases[(i*7+worker)%len(cases)]
				if got, e, line := planes.Plain(c.problem); got != c.want || e != c.e || line != c.line {
					t.Errorf("P2: Plain(%.200q) = %.200q, %d, %d", c.problem, got, e, line)
					return
				}
			}
		})
	}
	group.Wait()
}

func FuzzPlain(f *testing.F) {
	for _, problem := range plainTexts() {
		f.Add(problem)
	}
	f.Add(text("vars 2", "max 05 -004", "range -0 8", "range 3 -0"))
	f.Add("vars 1\nmax 1\nrange 0 8")
	f.Fuzz(func(t *testing.T, problem string) { checkPlain(t, plainByShape(problem)) })
}
