package planes

import (
	"planes/api"
	"planes/fraction"
	"planes/whole"
)

// operation: fault is what forbids it for these numbers, OK if nothing does;
// reckon is asked only where nothing does.
type operation struct {
	code   int
	fault  func(a, b fraction.Fraction) api.Errno
	reckon func(a, b fraction.Fraction) fraction.Fraction
}

// operations is a function, not a variable: a table of functions does not
// stand at package level.
func operations() []operation {
	return []operation{
		{api.Plus, noFault, fraction.Fraction.Plus},
		{api.Minus, noFault, fraction.Fraction.Minus},
		{api.Times, noFault, fraction.Fraction.Times},
		{api.Over, faultIfZero, fraction.Fraction.Over},
		{api.Floor, noFault, floor},
		{api.Less, noFault, less},
	}
}

func findOperation(code int) (operation, bool) {
	for _, o := range operations() {
		if o.code == code {
			return o, true
		}
	}
	return operation{}, false
}

func noFault(_, _ fraction.Fraction) api.Errno { return api.OK }

func faultIfZero(_, b fraction.Fraction) api.Errno {
	if b.Sign() == 0 {
		return api.ErrZero
	}
	return api.OK
}

func floor(a, _ fraction.Fraction) fraction.Fraction { return fraction.Of(a.Floor()) }

func less(a, b fraction.Fraction) fraction.Fraction {
	if a.Compare(b) < 0 {
		return fraction.Of(whole.Of(1))
	}
	return fraction.Of(whole.Of(0))
}

func calc(op int, a string, b string) (string, api.Errno) {
	chosen, ok := findOperation(op)
	if !ok {
		return "", api.ErrOp
	}
	first, ok := fraction.Parse(a, api.MaxDigits)
	if !ok {
		return "", api.ErrNumber
	}
	second, ok := fraction.Parse(b, api.MaxDigits)
	if !ok {
		return "", api.ErrNumber
	}
	if fault := chosen.fault(first, second); fault != api.OK {
		return "", fault
	}
	return chosen.reckon(first, second).String(), api.OK
}
