package problem

import (
	"planes/api"
	"planes/lines"
	"planes/whole"
)

// place is a place on a line: it reads the word that stands there; false, if
// that word can't.
type place func(word string) bool

// fits reads a line that has one word for each place.
func fits(line string, places ...place) bool {
	for word := range lines.Words(line) {
		if len(places) == 0 || !places[0](word) {
			return false
		}
		places = places[1:]
	}
	return len(places) == 0
}

func exactly(want string) place {
	return func(word string) bool { return word == want }
}

func countInto(count *int) place {
	return func(word string) bool {
		// One byte only: a nought ahead is right in a whole, not here.
		if len(word) != 1 || word[0] < '1' || word[0] > '0'+api.MaxVars {
			return false
		}
		*count = int(word[0] - '0')
		return true
	}
}

func wholeInto(number *whole.Whole) place {
	return func(word string) bool {
		var ok bool
		*number, ok = whole.Parse(word, api.MaxDigits)
		return ok
	}
}

func relationInto(relation *Relation) place {
	return func(word string) bool {
		for _, known := range []Relation{AtMost, AtLeast, Equal} {
			if word == string(known) {
				*relation = known
				return true
			}
		}
		return false
	}
}
