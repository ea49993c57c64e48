package denote

import (
	"slices"

	"unison/api"
	"unison/value"
)

func isNull(v api.Value) bool { return v == api.Value{} }

// fits tells whether a value may be where a type is asked for.
func fits(v api.Value, kind int) bool {
	return value.Right(v) && (isNull(v) || v.Kind == kind)
}

// rightRows tells whether these may be all rows of a table. What rises has no key twice.
func rightRows(t api.Table, rows [][]api.Value) bool {
	for _, row := range rows {
		if !mayStand(t, row) {
			return false
		}
	}
	return rising(rows, t.Key) && together(t, rows)
}

func mayStand(t api.Table, row []api.Value) bool {
	return slices.EqualFunc(t.Columns, row, func(c api.Column, v api.Value) bool { return fits(v, c.Type) }) && !lacks(t, row)
}

// lacks tells whether a row, as long as its table's, is NULL where it must not be. In a right catalog the key's columns are NotNull.
func lacks(t api.Table, row []api.Value) bool {
	for i, c := range t.Columns {
		if c.NotNull && isNull(row[i]) {
			return true
		}
	}
	return false
}

// by orders rows by their values in some columns, one behind the other.
func by(columns []int) func(a, b []api.Value) int {
	return func(a, b []api.Value) int {
		for _, c := range columns {
			if order := value.Order(a[c], b[c]); order != 0 {
				return order
			}
		}
		return 0
	}
}

func rising(rows [][]api.Value, columns []int) bool {
	order := by(columns)
	for i := 1; i < len(rows); i++ {
		if order(rows[i-1], rows[i]) >= 0 {
			return false
		}
	}
	return true
}

// together tells whether rows, each of which may stand in a table, may stand there together.
func together(t api.Table, rows [][]api.Value) bool {
	if !distinct(rows, t.Key) {
		return false
	}
	for _, x := range t.Indexes {
		if x.Unique && !distinct(rows, x.Columns) {
			return false
		}
	}
	return true
}

// distinct tells whether no two rows have the same values in some columns. NULL is the same as none.
func distinct(rows [][]api.Value, columns []int) bool {
	whole := slices.DeleteFunc(slices.Clone(rows), func(row []api.Value) bool {
		return slices.ContainsFunc(columns, func(c int) bool { return isNull(row[c]) })
	})
	slices.SortFunc(whole, by(columns))
	return rising(whole, columns)
}
