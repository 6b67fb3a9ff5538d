package planes

import (
	"planes/api"
	"planes/problem"
)

func plain(text string) (string, api.Errno, int) {
	read, e, line := problem.Read(text)
	if e != api.OK {
		return "", e, line
	}
	return read.String(), api.OK, 0
}
