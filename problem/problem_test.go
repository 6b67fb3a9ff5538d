package problem

import (
	"slices"
	"testing"

	"planes/api"
	"planes/whole"
)

const example = "vars 2\nmax 5 -4\nrange 0 6\nrange -1 5\nrow 6 4 <= 24\nrow 1 2 >= 6\nrow 0 -1 = -3\n"

func readExample(t *testing.T) Problem {
	t.Helper()
	p, e, line := Read(example)
	if e != api.OK || line != 0 {
		t.Fatalf("Read = %d, %d", e, line)
	}
	return p
}

func TestColumns(t *testing.T) {
	var got [][3]string
	for column := range readExample(t).Columns() {
		got = append(got, [3]string{column.Aim.String(), column.Low.String(), column.High.String()})
	}
	if want := [][3]string{{"5", "0", "6"}, {"-4", "-1", "5"}}; !slices.Equal(got, want) {
		t.Errorf("Columns: %v, want %v", got, want)
	}
}

func TestRows(t *testing.T) {
	var got []string
	for row := range readExample(t).Rows() {
		for factor := range row.Factors() {
			got = append(got, factor.String())
		}
		got = append(got, string(row.Relation), row.Bound.String())
	}
	if want := []string{"6", "4", "<=", "24", "1", "2", ">=", "6", "0", "-1", "=", "-3"}; !slices.Equal(got, want) {
		t.Errorf("Rows: %q, want %q", got, want)
	}
}

// TestLeftEarly: an iterator that went on after it was left would panic; and
// it begins anew when it is gone over again.
func TestLeftEarly(t *testing.T) {
	p := readExample(t)
	for range 2 {
		for row := range p.Rows() {
			if row.Bound.String() != "24" {
				t.Errorf("the first row is %s", row.line())
			}
			for factor := range row.Factors() {
				if factor.String() != "6" {
					t.Errorf("the first factor is %s", factor)
				}
				break
			}
			break
		}
		for column := range p.Columns() {
			if column.Aim.String() != "5" {
				t.Errorf("the first column is %v", column)
			}
			break
		}
	}
}

// TestNotWrittenInto: what is handed out is a copy.
func TestNotWrittenInto(t *testing.T) {
	p := readExample(t)
	for column := range p.Columns() {
		column.Aim, column.Low = whole.Of(9), whole.Of(9)
	}
	for row := range p.Rows() {
		row.Relation, row.Bound = Equal, whole.Of(9)
	}
	if p.String() != example {
		t.Errorf("the problem is now %q", p.String())
	}
}

func TestFits(t *testing.T) {
	var first, second whole.Whole
	for line, want := range map[string]bool{
		"a 1 2": true, "a -01 0": true,
		"": false, "a": false, "a 1": false, "a 1 2 3": false, "a 1 2 ": false, " a 1 2": false, "a  1 2": false, "b 1 2": false, "a 1 x": false,
	} {
		if got := fits(line, exactly("a"), wholeInto(&first), wholeInto(&second)); got != want {
			t.Errorf("fits(%q) = %v", line, got)
		}
	}
	if !fits("a 7 -08", exactly("a"), wholeInto(&first), wholeInto(&second)) || first.String() != "7" || second.String() != "-8" {
		t.Errorf("read %s and %s", first, second)
	}
}

// TestFaultsLeaveNothing: with an error there is no problem.
func TestFaultsLeaveNothing(t *testing.T) {
	for _, text := range []string{"", example + "row", example + "row 1 1 <= 1/2\n", "vars 1\nmax 1\nrange 0 8\n", string(make([]byte, api.MaxText+1))} {
		p, e, _ := Read(text)
		if e == api.OK || p.columns != nil || p.rows != nil {
			t.Errorf("Read(%.40q) = %v, %d", text, p, e)
		}
	}
}
