// Package lines: texts as lines, and lines as words.
package lines

import (
	"iter"
	"strings"
)

const (
	lineEnd = "\n"
	blank   = " "
)

// Line is a line of a text without its end; Number counts from 1 on. Only a
// last line may lack its end.
type Line struct {
	Number int
	Text   string
	Ended  bool
	Last   bool
}

// Of goes over the lines of a text: none, if it is empty.
func Of(text string) iter.Seq[Line] {
	return func(yield func(Line) bool) {
		rest := text
		for number := 1; rest != ""; number++ {
			line := Line{Number: number}
			line.Text, rest, line.Ended = strings.Cut(rest, lineEnd)
			line.Last = rest == ""
			if !yield(line) {
				return
			}
		}
	}
}

// Words goes over what single blanks part: a blank too many makes an empty
// word, so that whoever reads the words sees it.
func Words(line string) iter.Seq[string] {
	return func(yield func(string) bool) {
		word, rest, more := strings.Cut(line, blank)
		for yield(word) && more {
			word, rest, more = strings.Cut(rest, blank)
		}
	}
}

// Join makes a line, with its end, of words.
func Join(words ...string) string {
	return strings.Join(words, blank) + lineEnd
}
