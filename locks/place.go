package locks

import (
	"slices"
	"strings"

	"unison/api"
)

// place is one of the log that has asked for locks.
type place struct {
	pos   int
	locks []api.Lock
}

// keeping tells of open places whether they keep one waiting.
func keeping(p place) func(place) bool {
	return func(ahead place) bool { return ahead.pos < p.pos && meet(ahead.locks, p.locks) }
}

// meet tells whether a lock of one list meets one of another.
func meet(a, b []api.Lock) bool {
	for _, x := range a {
		for _, y := range b {
			if Conflict(x, y) {
				return true
			}
		}
	}
	return false
}

// copied are the same locks in memory of their own: a piece of a longer text would keep all of it.
func copied(l []api.Lock) []api.Lock {
	l = slices.Clone(l)
	for i, x := range l {
		l[i].Lo, l[i].Hi = strings.Clone(x.Lo), strings.Clone(x.Hi)
	}
	return l
}
