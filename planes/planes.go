// Package planes: greatest whole-number points by cutting planes: see DOC.md.
package planes

import "planes/api"

// Calc reckons with numbers (P3).
func Calc(op int, a string, b string) (string, api.Errno) { return calc(op, a, b) }

// Plain tells a problem in its plain form (P4).
func Plain(problem string) (string, api.Errno, int) { return plain(problem) }

// Audit looks whether a log shows a verdict (P5).
func Audit(problem string, v api.Verdict, log string) (api.Errno, int) { return audit(problem, v, log) }

// Solve finds the greatest point (P6, P7).
func Solve(problem string, cuts int, pivots int) (api.Result, api.Errno, int) {
	return solve(problem, cuts, pivots)
}
