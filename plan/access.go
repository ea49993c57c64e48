package plan

import (
	"slices"

	"unison/api"
	"unison/check"
)

// target is a table that a statement comes to the rows of: its place in the catalog, and where its columns begin in the long row.
type target struct {
	table  api.Table
	place  int
	begins int
}

// targets are the tables that a right statement needs accesses for. An insert looks at no rows.
func targets(c api.Catalog, t api.Typed) []target {
	if t.Kind == api.StmtInsert {
		return nil
	}
	var l []target
	begins := 0
	for _, place := range t.Tables {
		l = append(l, target{c.Tables[place], place, begins})
		begins += len(c.Tables[place].Columns)
	}
	return l
}

// form is an access without its terms.
type form struct{ table, way, index int }

func formOf(a api.Access) form { return form{a.Table, a.Way, a.Index} }

// forms are those that the accesses of a table may have, in the order in which they are looked at.
func (x target) forms() []form {
	l := []form{{x.place, api.WayAll, 0}, {x.place, api.WayKey, 0}}
	for i := range x.table.Indexes {
		l = append(l, form{x.place, api.WayIndex, i})
	}
	return l
}

// columns are those of a form, as places in the table. All rows are come to by none.
func (x target) columns(f form) []int {
	switch f.way {
	case api.WayKey:
		return x.table.Key
	case api.WayIndex:
		return x.table.Indexes[f.index].Columns
	}
	return nil
}

// merit is how good an access is: for how many columns it has equal values, and how many bounds behind these.
type merit struct{ fixed, bounds int }

func meritOf(a api.Access) merit { return merit{len(a.Fixed), len(a.Low) + len(a.High)} }

// takes tells whether an access is one for the table, if its terms are right.
func (x target) takes(a api.Access) bool {
	if !slices.Contains(x.forms(), formOf(a)) || (a.Way == api.WayAll) != (meritOf(a) == merit{}) {
		return false
	}
	if len(a.Low) > 1 || len(a.High) > 1 || a.LowOpen && len(a.Low) == 0 || a.HighOpen && len(a.High) == 0 {
		return false
	}
	columns := x.columns(formOf(a))
	if len(a.Fixed)+max(len(a.Low), len(a.High)) > len(columns) {
		return false
	}
	for i, t := range a.Fixed {
		if !x.fits(t, columns[i]) {
			return false
		}
	}
	return !slices.ContainsFunc(slices.Concat(a.Low, a.High), func(t api.Term) bool { return !x.fits(t, columns[len(a.Fixed)]) })
}

// fits tells whether a term is one that a column of the table may be held against.
func (x target) fits(t api.Term, column int) bool {
	return x.known(t) && (t.Type == api.Null || t.Type == x.table.Columns[column].Type)
}

// known tells whether a term has its value ahead of the table's rows. Ahead of its columns stand those of the first table, if it is the second one.
func (x target) known(t api.Term) bool {
	switch t.Op {
	case api.ExprValue, api.ExprParam:
		return true
	case api.ExprColumn:
		return t.Num < x.begins
	}
	return false
}

func termsOf(a api.Access) []api.Term { return slices.Concat(a.Fixed, a.Low, a.High) }

// rightTerms asks chapter 13 of known terms, as items of selects from the statement's first table, the only one whose columns are known.
func rightTerms(c api.Catalog, params []api.Param, t api.Typed, l []api.Term) bool {
	for items := range slices.Chunk(l, api.MaxItems) {
		s := api.Typed{Kind: api.StmtSelect, Tables: t.Tables[:1], Items: items}
		for _, x := range items {
			s.Types = append(s.Types, x.Type)
		}
		if !check.Right(c, params, s) {
			return false
		}
	}
	return true
}
