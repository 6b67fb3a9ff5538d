package lines

import (
	"slices"
	"strings"
	"testing"
)

func TestOf(t *testing.T) {
	for text, want := range map[string][]Line{
		"":         nil,
		"\n":       {{1, "", true, true}},
		"\n\n":     {{1, "", true, false}, {2, "", true, true}},
		"a":        {{1, "a", false, true}},
		"a\n":      {{1, "a", true, true}},
		"a\nb":     {{1, "a", true, false}, {2, "b", false, true}},
		"\n\na\n":  {{1, "", true, false}, {2, "", true, false}, {3, "a", true, true}},
		"a\r\n \n": {{1, "a\r", true, false}, {2, " ", true, true}},
	} {
		if got := slices.Collect(Of(text)); !slices.Equal(got, want) {
			t.Errorf("Of(%q) = %v, want %v", text, got, want)
		}
	}
}

func TestWords(t *testing.T) {
	for line, want := range map[string][]string{
		"":      {""},
		" ":     {"", ""},
		"a":     {"a"},
		"a b":   {"a", "b"},
		" a":    {"", "a"},
		"a ":    {"a", ""},
		"a  b":  {"a", "", "b"},
		"a\tb":  {"a\tb"},
		"a b c": {"a", "b", "c"},
	} {
		if got := slices.Collect(Words(line)); !slices.Equal(got, want) {
			t.Errorf("Words(%q) = %q, want %q", line, got, want)
		}
	}
}

// TestLeftEarly: an iterator that went on after it was left would panic; and
// it begins anew when it is gone over again.
func TestLeftEarly(t *testing.T) {
	all := Of("a\nb\nc\n")
	words := Words("a b c")
	for stop := range 4 {
		var seen, heard []string
		for line := range all {
			if len(seen) == stop {
				break
			}
			seen = append(seen, line.Text)
		}
		for word := range words {
			if len(heard) == stop {
				break
			}
			heard = append(heard, word)
		}
		want := []string{"a", "b", "c"}[:stop]
		if !slices.Equal(seen, want) || !slices.Equal(heard, want) {
			t.Errorf("left after %d: lines %q, words %q", stop, seen, heard)
		}
	}
}

func TestJoin(t *testing.T) {
	for want, words := range map[string][]string{"\n": nil, "a\n": {"a"}, "a b c\n": {"a", "b", "c"}} {
		if got := Join(words...); got != want {
			t.Errorf("Join(%q) = %q, want %q", words, got, want)
		}
	}
	line := strings.TrimSuffix(Join("x", "-1", "<="), "\n")
	if got := slices.Collect(Words(line)); !slices.Equal(got, []string{"x", "-1", "<="}) {
		t.Errorf("what Join makes is read as %q", got)
	}
}
