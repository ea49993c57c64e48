package catalog

import (
	"slices"

	"unison/api"
)

// mayBeTable tells whether a table may be.
func mayBeTable(t api.Table) bool {
	return isName(t.Name) && mayBeColumns(t.Columns) && mayBeKey(t) && mayBeIndexes(t)
}

func mayBeColumns(l []api.Column) bool {
	isNew := newName()
	return from(1, api.MaxColumns, len(l)) &&
		every(l, func(c api.Column) bool { return isNew(c.Name) && isType(c.Type) })
}

// mayBeKey tells whether a table's Key may be, and its Part.
func mayBeKey(t api.Table) bool {
	return mayBePlaces(t.Key, len(t.Columns)) && slices.Contains(t.Key, t.Part) &&
		every(t.Key, func(place int) bool { return t.Columns[place].NotNull })
}

func mayBeIndexes(t api.Table) bool {
	isNew := newName()
	return len(t.Indexes) <= api.MaxIndexes &&
		every(t.Indexes, func(x api.Index) bool { return isNew(x.Name) && mayBePlaces(x.Columns, len(t.Columns)) })
}

// mayBePlaces tells whether a key, or an index, may have these places of so many columns.
func mayBePlaces(l []int, columns int) bool {
	isNew := unmet[int]()
	return from(1, api.MaxParts, len(l)) &&
		every(l, func(place int) bool { return from(0, columns-1, place) && isNew(place) })
}

// mayBeProc tells whether a procedure may be.
func mayBeProc(p api.Proc) bool {
	return isName(p.Name) && mayBeParams(p.Params) && mayBeBody(p.Body) &&
		from(0, api.MaxBudget, p.Rows) && from(0, api.MaxBudget, p.Bytes)
}

func mayBeParams(l []api.Param) bool {
	isNew := newName()
	return len(l) <= api.MaxParams &&
		every(l, func(p api.Param) bool { return isNew(p.Name) && isType(p.Type) })
}

func mayBeBody(l []string) bool {
	return from(1, api.MaxBody, len(l)) &&
		every(l, func(source string) bool { return from(1, api.MaxSource, len(source)) })
}

// newName makes a question: whether a text is a name that it was not asked of before.
func newName() func(string) bool {
	isNew := unmet[string]()
	return func(s string) bool { return isName(s) && isNew(s) }
}

// unmet makes a question: whether it was not asked of a thing before.
func unmet[T comparable]() func(T) bool {
	met := map[T]struct{}{}
	return func(thing T) bool {
		_, twice := met[thing]
		met[thing] = struct{}{}
		return !twice
	}
}

func every[T any](l []T, holds func(T) bool) bool {
	for _, x := range l {
		if !holds(x) {
			return false
		}
	}
	return true
}

func isName(s string) bool {
	if !from(1, api.MaxName, len(s)) || !isSmallLetter(s[0]) {
		return false
	}
	for i := range len(s) {
		if !isSmallLetter(s[i]) && !isDigit(s[i]) && s[i] != '_' {
			return false
		}
	}
	return true
}

func isSmallLetter(b byte) bool { return 'a' <= b && b <= 'z' }

func isDigit(b byte) bool { return '0' <= b && b <= '9' }

func isType(n int) bool { return n == api.Int || n == api.Bool || n == api.Text }

// from tells whether a number is one of those from the least to the most.
func from(least, most, n int) bool { return least <= n && n <= most }
