package stable

import (
	"scriptorium/api"
	"scriptorium/parts"
)

// goOn tells whether these are entries, each of the Index behind that of the one ahead.
func goOn(l []api.Entry) bool {
	for i, e := range l {
		if !parts.MayBeEntry(e) || i > 0 && !isNext(l[i-1].Index, e.Index) {
			return false
		}
	}
	return true
}

// isNext asks for the difference, as there is no number behind the greatest int.
func isNext(n, next int) bool {
	return n < next && next-n == 1
}
