package problem

import (
	"slices"
	"strings"
	"testing"

	"planes/api"
	"planes/atmost"
	"planes/whole"
)

func showLaid(row atmost.Row) string {
	var words []string
	for factor := range row.Factors() {
		words = append(words, factor.String())
	}
	return strings.Join(append(words, row.Most.String()), " ")
}

// laidExample is what must hold in example, by number.
func laidExample() []string {
	return []string{
		"6 4 24",
		"-1 -2 -6",
		"0 -1 -3", "0 1 3",
		"1 0 6", "-1 0 0",
		"0 1 5", "0 -1 1",
	}
}

func TestLaid(t *testing.T) {
	var got []string
	for row := range readExample(t).Laid() {
		got = append(got, showLaid(row))
	}
	if want := laidExample(); !slices.Equal(got, want) {
		t.Errorf("Laid: %q, want %q", got, want)
	}
}

func TestLaidWithoutRows(t *testing.T) {
	p, e, _ := Read("vars 3\nmax 1 2 3\nrange 0 1\nrange -5 -2\nrange 9 3\n")
	var got []string
	for row := range p.Laid() {
		got = append(got, showLaid(row))
	}
	want := []string{"1 0 0 1", "-1 0 0 0", "0 1 0 -2", "0 -1 0 5", "0 0 1 3", "0 0 -1 -9"}
	if e != api.OK || !slices.Equal(got, want) {
		t.Errorf("Laid: %q, want %q", got, want)
	}
}

func TestAims(t *testing.T) {
	p := readExample(t)
	var got []string
	for aim := range p.Aims() {
		got = append(got, aim.String())
	}
	if !slices.Equal(got, []string{"5", "-4"}) || p.Vars() != 2 {
		t.Errorf("Aims: %q, %d variables", got, p.Vars())
	}
}

// TestLaidLeftEarly: an iterator that went on after it was left would panic,
// wherever it was left: between the two of an `=` and of a range too.
func TestLaidLeftEarly(t *testing.T) {
	p := readExample(t)
	for stop := range len(laidExample()) + 1 {
		var seen []string
		for row := range p.Laid() {
			if len(seen) == stop {
				break
			}
			seen = append(seen, showLaid(row))
		}
		if !slices.Equal(seen, laidExample()[:stop]) {
			t.Errorf("left after %d: %q", stop, seen)
		}
	}
	for aim := range p.Aims() {
		if aim.String() != "5" {
			t.Errorf("the first aim is %s", aim)
		}
		break
	}
	for factor := range p.oneAt(0) {
		if factor.Compare(whole.Of(1)) != 0 {
			t.Errorf("the first factor is %s", factor)
		}
		break
	}
}
