package planes

import (
	"planes/api"
	"planes/checker"
	"planes/problem"
)

func audit(text string, v api.Verdict, log string) (api.Errno, int) {
	read, e, line := problem.Read(text)
	if e != api.OK {
		return e, line
	}
	return checker.Check(read, v, log)
}
