package planes_test

import (
	"math/big"
	"math/rand"
	"regexp"
	"strconv"
	"strings"
	"sync"
	"testing"

	"planes/api"
	"planes/planes"
)

// model is a problem as these tests read it, apart from the program. Each of
// its rows has the coefficients first, and last what they make at most.
type model struct {
	max, low, high []*big.Int
	rows           [][]*big.Rat
	ranges         int // the place of the first row that is of a range
}

func bigInt(text string) *big.Int {
	value, _ := new(big.Int).SetString(text, 10)
	return value
}

// modelOf takes a problem in its plain form.
func modelOf(problem string) model {
	var m model
	for line := range strings.Lines(problem) {
		words := strings.Fields(line)
		switch words[0] {
		case "max":
			for _, word := range words[1:] {
				m.max = append(m.max, bigInt(word))
			}
		case "range":
			m.low, m.high = append(m.low, bigInt(words[1])), append(m.high, bigInt(words[2]))
		case "row":
			m.layDown(words[1:])
		}
	}
	m.ranges = len(m.rows)
	for i := range m.max {
		for _, bound := range []struct{ sign, most *big.Int }{{big.NewInt(1), m.high[i]}, {big.NewInt(-1), new(big.Int).Neg(m.low[i])}} {
			row := m.nothing()
			row[i].SetInt(bound.sign)
			row[len(m.max)].SetInt(bound.most)
			m.rows = append(m.rows, row)
		}
	}
	return m
}

func (m *model) layDown(words []string) {
	n := len(m.max)
	stands, turned := m.nothing(), m.nothing()
	for i, word := range append(words[:n:n], words[n+1]) {
		stands[i].SetInt(bigInt(word))
		turned[i].Neg(stands[i])
	}
	switch words[n] {
	case "<=":
		m.rows = append(m.rows, stands)
	case ">=":
		m.rows = append(m.rows, turned)
	case "=":
		m.rows = append(m.rows, stands, turned)
	}
}

func (m *model) nothing() []*big.Rat {
	row := make([]*big.Rat, len(m.max)+1)
	for i := range row {
		row[i] = new(big.Rat)
	}
	return row
}

// valueAt is false, if the point does not meet the problem.
func (m *model) valueAt(point []*big.Int) (*big.Int, bool) {
	for _, row := range m.rows {
		sum := new(big.Rat)
		for i, x := range point {
			sum.Add(sum, new(big.Rat).Mul(row[i], new(big.Rat).SetInt(x)))
		}
		if sum.Cmp(row[len(point)]) > 0 {
			return nil, false
		}
	}
	value := new(big.Int)
	for i, x := range point {
		value.Add(value, new(big.Int).Mul(m.max[i], x))
	}
	return value, true
}

// best tries every point: nil, if none meets the problem.
func (m *model) best() (point []*big.Int, value *big.Int) {
	var try func(some []*big.Int)
	try = func(some []*big.Int) {
		at := len(some)
		if at < len(m.max) {
			for x := m.low[at]; x.Cmp(m.high[at]) <= 0; x = new(big.Int).Add(x, big.NewInt(1)) {
				try(append(some[:at:at], x))
			}
		} else if there, ok := m.valueAt(some); ok && (value == nil || there.Cmp(value) > 0) {
			point, value = some, there
		}
	}
	try(nil)
	return point, value
}

var auditShapes = sync.OnceValue(func() (shapes [3]*regexp.Regexp) {
	const part = `( [0-9]+:-?[0-9]+(/0*[1-9][0-9]*)?)*\n\z`
	for i, shape := range []string{`\A-?[0-9]{1,100}\z`, `\Acut` + part, `\Aend` + part} {
		shapes[i] = regexp.MustCompile(shape)
	}
	return shapes
})

// auditByLibrary says by itself, apart from the program, what Audit must
// answer.
func auditByLibrary(problem string, v api.Verdict, log string) auditCase {
	c := auditCase{problem, v, log, 0, 0}
	read := plainByShape(problem)
	if read.e != api.OK {
		c.e, c.line = read.e, read.line
		return c
	}
	m := modelOf(read.want)
	switch c.e = m.verdictFault(v); {
	case c.e != api.OK:
	case len(log) > 20000:
		c.e = api.ErrLong
	default:
		c.e, c.line = m.logFault(v, log)
	}
	return c
}

func (m *model) verdictFault(v api.Verdict) api.Errno {
	if v.Kind == 2 {
		return api.OK
	}
	number := auditShapes()[0]
	if v.Kind != 1 || len(v.Point) != len(m.max) || !number.MatchString(v.Value) {
		return api.ErrVerdict
	}
	var point []*big.Int
	for _, x := range v.Point {
		if !number.MatchString(x) {
			return api.ErrVerdict
		}
		point = append(point, bigInt(x))
	}
	if value, ok := m.valueAt(point); !ok || value.Cmp(bigInt(v.Value)) != 0 {
		return api.ErrPoint
	}
	return api.OK
}

func (m *model) logFault(v api.Verdict, log string) (api.Errno, int) {
	if log == "" {
		return api.ErrLine, 1
	}
	lines := strings.SplitAfter(log, "\n")
	if lines[len(lines)-1] == "" {
		lines = lines[:len(lines)-1]
	}
	for i, line := range lines {
		shape := auditShapes()[1]
		if i == len(lines)-1 {
			shape = auditShapes()[2]
		}
		if !shape.MatchString(line) {
			return api.ErrLine, i + 1
		}
		made, e := m.make(strings.Fields(line)[1:])
		switch {
		case e != api.OK:
			return e, i + 1
		case i == len(lines)-1 && !m.ends(v, made):
			return api.ErrEnd, i + 1
		case i == len(lines)-1:
			return api.OK, 0
		case !allWhole(made[:len(m.max)]):
			return api.ErrWhole, i + 1
		}
		made[len(m.max)].SetInt(floorOf(made[len(m.max)]))
		m.rows = append(m.rows, made)
	}
	return api.OK, 0
}

func (m *model) make(parts []string) ([]*big.Rat, api.Errno) {
	sum := m.nothing()
	for _, part := range parts {
		number, factor, _ := strings.Cut(part, ":")
		row := bigInt(number)
		if row.Sign() == 0 || row.Cmp(big.NewInt(int64(len(m.rows)))) > 0 {
			return nil, api.ErrRow
		}
		upper, lower, _ := strings.Cut(factor, "/")
		times := new(big.Rat).SetInt(bigInt(upper))
		if lower != "" {
			times.SetFrac(bigInt(upper), bigInt(lower))
		}
		if times.Sign() <= 0 {
			return nil, api.ErrFactor
		}
		for i, number := range m.rows[row.Int64()-1] {
			sum[i].Add(sum[i], new(big.Rat).Mul(number, times))
		}
	}
	return sum, api.OK
}

func (m *model) ends(v api.Verdict, made []*big.Rat) bool {
	for i, aim := range m.max {
		if v.Kind == 2 {
			aim = new(big.Int)
		}
		if made[i].Cmp(new(big.Rat).SetInt(aim)) != 0 {
			return false
		}
	}
	if v.Kind == 2 {
		return made[len(m.max)].Sign() < 0
	}
	return floorOf(made[len(m.max)]).Cmp(bigInt(v.Value)) == 0
}

func allWhole(numbers []*big.Rat) bool {
	for _, number := range numbers {
		if !number.IsInt() {
			return false
		}
	}
	return true
}

func floorOf(number *big.Rat) *big.Int { return new(big.Int).Div(number.Num(), number.Denom()) }

// TestAuditNear goes through every log, value and point that is one byte away
// from one that is right.
func TestAuditNear(t *testing.T) {
	problem := text("vars 2", "max 5 4", "range 0 5", "range -0 05", "row 6 4 <= 24", "row 1 2 <= 6")
	log, v := "cut 1:1/8 2:01/4\ncut 7:2\nend 8:1 1:2/4\n", greatest("20", "4", "0")
	seen := map[api.Errno]int{}
	look := func(v api.Verdict, log string) {
		c := auditByLibrary(problem, v, log)
		seen[c.e]++
		checkAudit(t, c)
	}
	near := func(text string, look func(string)) {
		for at := range len(text) + 1 {
			look(text[:at])
			for _, letter := range "0123789-+/: \n\r\tcutendx\x00\u00a0" {
				look(text[:at] + string(letter) + text[at:])
				if at < len(text) {
					look(text[:at] + string(letter) + text[at+1:])
				}
			}
			if at < len(text) {
				look(text[:at] + text[at+1:])
			}
		}
	}
	near(log, func(log string) { look(v, log) })
	near("20", func(value string) { look(greatest(value, "4", "0"), log) })
	near("4", func(x string) { look(greatest("20", x, "0"), log) })
	near("0", func(x string) { look(greatest("20", "4", x), log) })
	for _, e := range []api.Errno{api.OK, api.ErrLine, api.ErrVerdict, api.ErrPoint, api.ErrRow, api.ErrFactor, api.ErrWhole, api.ErrEnd} {
		if seen[e] < 10 {
			t.Errorf("of error %d there were %d", e, seen[e])
		}
	}
}

// derivation draws a log for a problem, so that most of it is right.
type derivation struct {
	model
	r   *rand.Rand
	log strings.Builder
}

// line draws some parts, and then takes as many of the ranges' rows as make
// the coefficients whole, or, if it is to clear them, 0.
func (d *derivation) line(word string, clear bool) []*big.Rat {
	d.log.WriteString(word)
	sum := d.nothing()
	take := func(at int, times *big.Rat) {
		d.log.WriteString(" " + strconv.Itoa(at+1) + ":" + times.RatString())
		for i, number := range d.rows[at] {
			sum[i].Add(sum[i], new(big.Rat).Mul(number, times))
		}
	}
	for at := range d.rows {
		if d.r.Intn(4) == 0 {
			take(at, big.NewRat(int64(1+d.r.Intn(3)), int64(1+d.r.Intn(4))))
		}
	}
	for i := range d.max {
		off := new(big.Rat).Set(sum[i])
		if !clear {
			off.Sub(off, new(big.Rat).SetInt(floorOf(off)))
		}
		if !clear && off.Sign() > 0 && d.r.Intn(2) == 0 {
			off.Sub(off, big.NewRat(1, 1))
		}
		switch off.Sign() {
		case 1:
			take(d.ranges+2*i+1, off)
		case -1:
			take(d.ranges+2*i, off.Neg(off))
		}
	}
	d.log.WriteString("\n")
	return sum
}

func (d *derivation) cut() {
	row, n := d.line("cut", false), len(d.max)
	row[n].SetInt(floorOf(row[n]))
	d.rows = append(d.rows, row)
}

func smallProblem(r *rand.Rand, n int) string {
	lines := []string{"vars " + strconv.Itoa(n), "max" + strings.Repeat(" 0", n)}
	for range n {
		low := r.Intn(7) - 3
		lines = append(lines, "range "+strconv.Itoa(low)+" "+strconv.Itoa(low+r.Intn(4)-r.Intn(2)*r.Intn(2)))
	}
	for range r.Intn(4) {
		row := "row"
		for range n {
			row += " " + strconv.Itoa(r.Intn(9)-4)
		}
		lines = append(lines, row+" "+[]string{"<=", ">=", "="}[r.Intn(3)]+" "+strconv.Itoa(r.Intn(13)-5))
	}
	return text(lines...)
}

// someAudit draws a problem, its true verdict, and a log without a fault but
// that the end may show too little. What is to be greatest is what the end
// makes.
func someAudit(r *rand.Rand) (string, api.Verdict, string) {
	n := 1 + r.Intn(3)
	problem := smallProblem(r, n)
	d := derivation{model: modelOf(problem), r: r}
	point, _ := d.best()
	for range r.Intn(4) {
		d.cut()
	}
	end := d.line("end", point == nil)
	if point == nil {
		return problem, noPoint(), d.log.String()
	}
	max := "max"
	for _, factor := range end[:n] {
		max += " " + factor.RatString()
	}
	problem = strings.Replace(problem, "max"+strings.Repeat(" 0", n), max, 1)
	m := modelOf(problem)
	point, value := m.best()
	v := greatest(value.String())
	for _, x := range point {
		v.Point = append(v.Point, x.String())
	}
	return problem, v, d.log.String()
}

// spoilt is the text with a byte or a word of it changed.
func spoilt(r *rand.Rand, text string) string {
	at := r.Intn(len(text) + 1)
	switch r.Intn(5) {
	case 0:
		return text[:at] + string("0123456789-/: \n"[r.Intn(15)]) + text[at:]
	case 1:
		return text[:at] + text[min(at+1, len(text)):]
	case 2:
		words := strings.SplitAfter(text, " ")
		one, two := r.Intn(len(words)), r.Intn(len(words))
		words[one], words[two] = words[two], words[one]
		return strings.Join(words, "")
	case 3:
		return text[:at] + strings.Replace(text[at:], ":", []string{":-", ":0/", ":-0"}[r.Intn(3)], 1)
	}
	lines := strings.SplitAfter(text, "\n")
	one := r.Intn(len(lines))
	return strings.Join(append(lines[:one:one], lines[min(one+1, len(lines)):]...), "")
}

// TestAuditDrawn holds the program against the library; and what it says is
// shown, against all points there are (P8).
func TestAuditDrawn(t *testing.T) {
	r := rand.New(rand.NewSource(13))
	seen, right := map[api.Errno]int{}, map[int]int{}
	for range 40000 {
		problem, v, log := someAudit(r)
		switch r.Intn(8) {
		case 0, 1, 2:
			log = spoilt(r, log)
		case 3:
			v.Value = spoilt(r, v.Value)
		case 4:
			problem = spoilt(r, problem)
		case 5:
			v.Kind = r.Intn(5)
		}
		c := auditByLibrary(problem, v, log)
		checkAudit(t, c)
		seen[c.e]++
		if e, _ := planes.Audit(problem, v, log); e == api.OK {
			right[v.Kind]++
			checkTrue(t, problem, v)
		}
		if t.Failed() {
			return
		}
	}
	for e := api.OK; e <= api.ErrEnd; e++ {
		if e != api.ErrOp && e != api.ErrNumber && e != api.ErrZero && e != api.ErrLong && seen[e] < 20 {
			t.Errorf("of error %d there were %d", e, seen[e])
		}
	}
	if right[api.Greatest] < 1000 || right[api.None] < 1000 {
		t.Errorf("too few were shown: %v, %v", right, seen)
	}
}

// checkTrue tries all points.
func checkTrue(t *testing.T, problem string, v api.Verdict) {
	t.Helper()
	m := modelOf(plainByShape(problem).want)
	_, value := m.best()
	if v.Kind == api.None && value != nil || v.Kind == api.Greatest && (value == nil || value.Cmp(bigInt(v.Value)) != 0) {
		t.Errorf("P8: of %q the verdict %v is said to be shown, but the greatest value is %v", problem, v, value)
	}
}

// longLogs are logs of nearly MaxLog bytes that are made to take long: sums
// of many lower parts, or with long rows.
func longLogs(r *rand.Rand) []string {
	digits := func(count int) string {
		text := make([]byte, count)
		for i := range text {
			text[i] = byte('1' + r.Intn(9))
		}
		return string(text)
	}
	fill := func(head, tail string, more func() string) string {
		for next := more(); len(head)+len(next)+len(tail) <= api.MaxLog; next = more() {
			head += next
		}
		return head + tail
	}
	prime := int64(1)
	nextPrime := func() int64 {
		for prime++; !big.NewInt(prime).ProbablyPrime(0); prime++ {
		}
		return prime
	}
	long := "cut 1:" + digits(8000)
	logs := []string{
		fill("end", "\n", func() string { return " 1:1/" + strconv.FormatInt(nextPrime(), 10) }),
		fill(long+"\nend", "\n", func() string { return " 10:1/3" }),
		fill(long+"\nend", "\n", func() string { return " 10:1/" + digits(3) }),
		fill(long, "\nend\n", func() string { return "\ncut 10:3" }),
		"end 1:" + digits(9990) + "/" + digits(9990) + "\n",
	}
	for _, count := range []int{5, 10, 100, 1000, 4000} {
		logs = append(logs, fill("end", "\n", func() string { return " 1:1/" + digits(count) }),
			fill(long+"\nend", "\n", func() string { return " 10:" + digits(count) + "/" + digits(count) }))
	}
	return logs
}

// TestAuditLongest: none of them takes longer than one can wait for.
func TestAuditLongest(t *testing.T) {
	r := rand.New(rand.NewSource(17))
	most := strings.Repeat("7", api.MaxDigits)
	problem := text("vars 4", "max 1 1 1 1", "range 0 5", "range 0 5", "range 0 5", "range 0 5", "row "+most+" 8"+most[1:]+" "+most[1:]+"8 9"+most[1:]+" <= "+most[1:]+"1")
	for _, log := range longLogs(r) {
		lines := strings.Count(log, "\n")
		checkAudit(t, auditCase{problem, noPoint(), log, api.ErrEnd, lines})
	}
}

func FuzzAudit(f *testing.F) {
	for _, c := range auditShown() {
		f.Add(c.problem, c.v.Kind, strings.Join(c.v.Point, " "), c.v.Value, c.log)
	}
	f.Fuzz(func(t *testing.T, problem string, kind int, point, value, log string) {
		v := api.Verdict{Kind: kind, Point: strings.Split(point, " "), Value: value}
		c := auditByLibrary(problem, v, log)
		checkAudit(t, c)
		if c.e == api.OK {
			checkTrue(t, problem, v)
		}
	})
}
