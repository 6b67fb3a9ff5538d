package logbook

import (
	"slices"
	"strconv"
	"strings"
	"testing"
)

func show(line Line, ok bool) string {
	if !ok {
		if line.IsEnd || line.parts != nil {
			return "a wrong line with more than its number"
		}
		return "wrong " + strconv.Itoa(line.Number)
	}
	words := []string{strconv.Itoa(line.Number), map[bool]string{false: "cut", true: "end"}[line.IsEnd]}
	for part := range line.Parts() {
		words = append(words, part.Row.String()+":"+part.Factor.String())
	}
	return strings.Join(words, " ")
}

func TestOf(t *testing.T) {
	long := strings.Repeat("9", 3000)
	for text, want := range map[string][]string{
		"end\n":                             {"1 end"},
		"cut\nend\n":                        {"1 cut", "2 end"},
		"cut 1:1/2 4:1\nend 1:1\n":          {"1 cut 1:1/2 4:1", "2 end 1:1"},
		"end 1:1 1:1 01:02/4\n":             {"1 end 1:1 1:1 1:1/2"},
		"end 0:0 00:-0 7:-3/6\n":            {"1 end 0:0 0:0 7:-1/2"},
		"end " + long + ":" + long + "\n":   {"1 end " + long + ":" + long},
		"end 1:-1/" + long + "\n":           {"1 end 1:-1/" + long},
		"":                                  {"wrong 1"},
		"\n":                                {"wrong 1"},
		"end":                               {"wrong 1"},
		"cut":                               {"wrong 1"},
		"cut\n":                             {"wrong 1"},
		"cut\nend":                          {"1 cut", "wrong 2"},
		"cut\ncut\n":                        {"1 cut", "wrong 2"},
		"end\nend\n":                        {"wrong 1"},
		"end\n\n":                           {"wrong 1"},
		"cut\n\nend\n":                      {"1 cut", "wrong 2"},
		"cut 1:1\ncut x\ncut 2:2\nend 1:\n": {"1 cut 1:1", "wrong 2"},
	} {
		var got []string
		for line, ok := range Of(text) {
			got = append(got, show(line, ok))
		}
		if !slices.Equal(got, want) {
			t.Errorf("Of(%.60q) = %.200q, want %.200q", text, got, want)
		}
	}
}

func TestWrongParts(t *testing.T) {
	for _, parts := range []string{
		" ", "  1:1", " 1:1 ", " 1:1  1:1", "\t1:1", " 1:1\r", "1:1", " 1", " :", " 1:", " :1", " 1:1:1", " 1::1", " 1 :1", " 1: 1", " -1:1", " -0:1", " +1:1", " 1/1:1",
		" x:1", " 1:x", " 1:+1", " 1:--1", " 1:-", " 1:1/", " 1:/1", " 1:1/0", " 1:0/00", " 1:1/-1", " 1:1/2/3", " 1:1.5", " 1:1e3", " 1:0x1", " 1,1", " 1:1,", " 1:1 2", " 1:1 end", " end",
	} {
		for _, text := range []string{"end" + parts + "\n", "end 1:1" + parts + "\n", "cut" + parts + "\nend\n"} {
			for line, ok := range Of(text) {
				if ok || show(line, ok) != "wrong 1" {
					t.Errorf("Of(%q) begins with %s", text, show(line, ok))
				}
				break
			}
		}
	}
	for _, word := range []string{"ends", "en", "End", "END", " end", "cuts", "Cut", "cutend", "row", "1:1"} {
		for line, ok := range Of(word + " 1:1\n") {
			if ok || line.Number != 1 {
				t.Errorf("a last line may begin with %q", word)
			}
		}
	}
}

// TestLeftEarly: an iterator that went on after it was left would panic; and
// it begins anew when it is gone over again.
func TestLeftEarly(t *testing.T) {
	log := Of("cut 1:1 2:2\ncut 3:3\nend 4:4\n")
	for stop := range 4 {
		var seen []string
		for line, ok := range log {
			if len(seen) == stop {
				break
			}
			seen = append(seen, show(line, ok))
			for part := range line.Parts() {
				if part.Row.IsZero() {
					t.Error("a row's number is lost")
				}
				break
			}
		}
		if want := []string{"1 cut 1:1 2:2", "2 cut 3:3", "3 end 4:4"}[:stop]; !slices.Equal(seen, want) {
			t.Errorf("left after %d: %q", stop, seen)
		}
	}
	for range Of("") {
		break
	}
	for range partsOf([]string{"1:1", "x", "2:2"}) {
		break
	}
}

// TestWritten: what is written is read as it was, in lowest terms.
func TestWritten(t *testing.T) {
	for parts, want := range map[string]string{
		"":                        "",
		" 1:1":                    " 1:1",
		" 07:02/4 1:3/1 1:-6/4":   " 7:1/2 1:3 1:-3/2",
		" 18446744073709551616:0": " 18446744073709551616:0",
	} {
		for line := range Of("end" + parts + "\n") {
			if got := End(line.Parts()); got != "end"+want+"\n" {
				t.Errorf("End of %q = %q", parts, got)
			}
			if got := Cut(line.Parts()); got != "cut"+want+"\n" {
				t.Errorf("Cut of %q = %q", parts, got)
			}
		}
	}
}
