// Package problem: problems, as they are read and as they are written.
package problem

import (
	"iter"
	"strconv"
	"strings"

	"planes/lines"
	"planes/whole"
)

// Words that lines begin with.
const (
	wordVars  = "vars"
	wordMax   = "max"
	wordRange = "range"
	wordRow   = "row"
)

// Relation is how a condition holds its sum against its whole.
type Relation string

const (
	AtMost  Relation = "<="
	AtLeast Relation = ">="
	Equal   Relation = "="
)

// Column is what a problem says of one variable: its coefficient in what is
// to be greatest, and its range.
type Column struct {
	Aim, Low, High whole.Whole
}

// Row is a condition.
type Row struct {
	Relation Relation
	Bound    whole.Whole
	factors  []whole.Whole
}

// Problem is a problem; Read makes it.
type Problem struct {
	columns []Column
	rows    []Row
}

// Columns goes over the variables, in order.
func (p Problem) Columns() iter.Seq[Column] { return each(p.columns) }

// Vars is how many variables there are.
func (p Problem) Vars() int { return len(p.columns) }

// Aims goes over the coefficients of what is to be greatest.
func (p Problem) Aims() iter.Seq[whole.Whole] {
	return func(yield func(whole.Whole) bool) {
		for column := range p.Columns() {
			if !yield(column.Aim) {
				return
			}
		}
	}
}

// Rows goes over the conditions, in order.
func (p Problem) Rows() iter.Seq[Row] { return each(p.rows) }

// Factors goes over the coefficients, one for each variable.
func (r Row) Factors() iter.Seq[whole.Whole] { return each(r.factors) }

// each hands the entries out by value, so that whoever goes over them can't
// write into the list.
func each[E any](list []E) iter.Seq[E] {
	return func(yield func(E) bool) {
		for entry := range within(list) {
			if !yield(*entry) {
				return
			}
		}
	}
}

// within hands out the entries' places, for the one who is still making the
// list.
func within[E any](list []E) iter.Seq[*E] {
	return func(yield func(*E) bool) {
		for i := range list {
			if !yield(&list[i]) {
				return
			}
		}
	}
}

// String is the plain form.
func (p Problem) String() string {
	var text strings.Builder
	text.WriteString(lines.Join(wordVars, strconv.Itoa(p.Vars())))
	aims := []string{wordMax}
	for aim := range p.Aims() {
		aims = append(aims, aim.String())
	}
	text.WriteString(lines.Join(aims...))
	for column := range p.Columns() {
		text.WriteString(lines.Join(wordRange, column.Low.String(), column.High.String()))
	}
	for row := range p.Rows() {
		text.WriteString(row.line())
	}
	return text.String()
}

func (r Row) line() string {
	words := []string{wordRow}
	for factor := range r.Factors() {
		words = append(words, factor.String())
	}
	return lines.Join(append(words, string(r.Relation), r.Bound.String())...)
}
