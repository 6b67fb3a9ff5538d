// Package logbook: logs, as they are read and as they are written.
package logbook

import (
	"iter"
	"math"
	"slices"
	"strings"

	"planes/fraction"
	"planes/lines"
	"planes/natural"
)

// Words that lines begin with.
const (
	wordCut = "cut"
	wordEnd = "end"
)

const (
	partMark = ":"
	// A number in a log is as long as it likes: the log itself has a bound.
	anyDigits = math.MaxInt
)

// Part is the number of a row, and how many times it is taken.
type Part struct {
	Row    natural.Natural
	Factor fraction.Fraction
}

// String is the part as it is written.
func (p Part) String() string { return p.Row.String() + partMark + p.Factor.String() }

// Cut is the line of a cut, as it is written, with its end.
func Cut(parts iter.Seq[Part]) string { return written(wordCut, parts) }

// End is the line that shows the verdict, as it is written, with its end.
func End(parts iter.Seq[Part]) string { return written(wordEnd, parts) }

func written(word string, parts iter.Seq[Part]) string {
	words := []string{word}
	for part := range parts {
		words = append(words, part.String())
	}
	return lines.Join(words...)
}

// Line is a line of a log: IsEnd tells the last one, which shows the verdict,
// from a cut. Number counts from 1 on.
type Line struct {
	Number int
	IsEnd  bool
	parts  []Part
}

// Parts goes over the parts, in order.
func (l Line) Parts() iter.Seq[Part] { return slices.Values(l.parts) }

// Of goes over the lines of a log; with false comes the first one that can't
// stand there or is missing, with its number alone, and nothing after it.
func Of(text string) iter.Seq2[Line, bool] {
	return func(yield func(Line, bool) bool) {
		for raw := range lines.Of(text) {
			line, ok := read(raw)
			if !yield(line, ok) || !ok {
				return
			}
		}
		if text == "" {
			yield(Line{Number: 1}, false)
		}
	}
}

func read(raw lines.Line) (Line, bool) {
	wrong := Line{Number: raw.Number}
	line := Line{Number: raw.Number, IsEnd: raw.Last}
	words := slices.Collect(lines.Words(raw.Text))
	if !raw.Ended || words[0] != firstWord(raw.Last) {
		return wrong, false
	}
	for part, ok := range partsOf(words[1:]) {
		if !ok {
			return wrong, false
		}
		line.parts = append(line.parts, part)
	}
	return line, true
}

func firstWord(last bool) string {
	if last {
		return wordEnd
	}
	return wordCut
}

// partsOf goes over the words behind a line's first one; false comes with a
// word that is no part.
func partsOf(words []string) iter.Seq2[Part, bool] {
	return func(yield func(Part, bool) bool) {
		for _, word := range words {
			if !yield(readPart(word)) {
				return
			}
		}
	}
}

func readPart(word string) (Part, bool) {
	number, times, _ := strings.Cut(word, partMark)
	row, isRow := natural.Parse(number, anyDigits)
	factor, isFactor := fraction.Parse(times, anyDigits)
	if !isRow || !isFactor {
		return Part{}, false
	}
	return Part{Row: row, Factor: factor}, true
}
