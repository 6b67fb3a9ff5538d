package problem

import (
	"planes/api"
	"planes/lines"
	"planes/whole"
)

// Lines ahead of the ranges.
const headLines = 2

// Read reads a problem: with ErrLine and ErrWidth, the number of the line.
func Read(text string) (Problem, api.Errno, int) {
	if len(text) > api.MaxText {
		return Problem{}, api.ErrLong, 0
	}
	p, fault := readLines(text)
	if fault != 0 {
		return Problem{}, api.ErrLine, fault
	}
	if fault := p.tooWide(); fault != 0 {
		return Problem{}, api.ErrWidth, fault
	}
	return p, api.OK, 0
}

// readLines hands out the number of the first line that is wrong or missing
// too; 0, if there is none.
func readLines(text string) (Problem, int) {
	var p Problem
	next := 1
	for line := range lines.Of(text) {
		if !line.Ended || !p.take(line) {
			return Problem{}, line.Number
		}
		next = line.Number + 1
	}
	if next <= p.neededLines() {
		return Problem{}, next
	}
	return p, 0
}

// neededLines is right once the first line is read; ahead of that it is still
// enough to see that a line is missing.
func (p *Problem) neededLines() int { return headLines + len(p.columns) }

// take reads a line into the problem; false, if it can't stand there.
func (p *Problem) take(line lines.Line) bool {
	switch {
	case line.Number == 1:
		return p.takeVars(line.Text)
	case line.Number == 2:
		return p.takeMax(line.Text)
	case line.Number <= p.neededLines():
		return p.takeRange(line.Text, line.Number-headLines-1)
	}
	return len(p.rows) < api.MaxRows && p.takeRow(line.Text)
}

func (p *Problem) takeVars(line string) bool {
	var count int
	if !fits(line, exactly(wordVars), countInto(&count)) {
		return false
	}
	p.columns = make([]Column, count)
	return true
}

func (p *Problem) takeMax(line string) bool {
	places := []place{exactly(wordMax)}
	for column := range within(p.columns) {
		places = append(places, wholeInto(&column.Aim))
	}
	return fits(line, places...)
}

func (p *Problem) takeRange(line string, at int) bool {
	column := &p.columns[at]
	return fits(line, exactly(wordRange), wholeInto(&column.Low), wholeInto(&column.High))
}

func (p *Problem) takeRow(line string) bool {
	row := Row{factors: make([]whole.Whole, len(p.columns))}
	places := []place{exactly(wordRow)}
	for factor := range within(row.factors) {
		places = append(places, wholeInto(factor))
	}
	places = append(places, relationInto(&row.Relation), wholeInto(&row.Bound))
	if !fits(line, places...) {
		return false
	}
	p.rows = append(p.rows, row)
	return true
}

// tooWide is the line of the first range that is too wide; 0, if none is.
func (p *Problem) tooWide() int {
	line := headLines
	for column := range p.Columns() {
		line++
		if column.High.Minus(column.Low).Compare(whole.Of(api.MaxWidth)) > 0 {
			return line
		}
	}
	return 0
}
