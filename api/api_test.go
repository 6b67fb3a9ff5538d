package api

import "testing"

// TestNumbers: callers hold the numbers themselves, so the document fixes
// each of them.
func TestNumbers(t *testing.T) {
	errnos := []Errno{OK, ErrOp, ErrNumber, ErrZero, ErrLong, ErrLine, ErrWidth, ErrVerdict, ErrPoint, ErrRow, ErrFactor, ErrWhole, ErrEnd, ErrLimit}
	for i, e := range errnos {
		if int(e) != i {
			t.Errorf("error %d has the number %d", i, e)
		}
	}
	for i, op := range []int{Plus, Minus, Times, Over, Floor, Less} {
		if op != i+1 {
			t.Errorf("operation %d has the number %d", i+1, op)
		}
	}
	for i, kind := range []int{Greatest, None, Limit} {
		if kind != i+1 {
			t.Errorf("verdict %d has the number %d", i+1, kind)
		}
	}
	bounds := [...]int{MaxDigits, MaxText, MaxVars, MaxRows, MaxWidth, MaxLog, MaxCuts}
	if bounds != [...]int{40, 2000, 4, 6, 7, 20000, 20000} {
		t.Errorf("the bounds are %v", bounds)
	}
}
