package plan

import (
	"slices"

	"unison/api"
)

// turned is each comparison as it is seen from its right side.
var turned = [...]int{api.CmpEq: api.CmpEq, api.CmpNe: api.CmpNe, api.CmpLt: api.CmpGt, api.CmpLe: api.CmpGe, api.CmpGt: api.CmpLt, api.CmpGe: api.CmpLe}

// conjunctsOf are the terms all of which are TRUE for each chosen row. One that isn't safe has none: a row that is left out might have had an error.
func conjunctsOf(t api.Typed) []api.Term {
	tests := slices.Concat(t.Where, t.On)
	if slices.ContainsFunc(tests, reckons) {
		return nil
	}
	return split(tests)
}

// reckons tells whether a term may have an error.
func reckons(t api.Term) bool {
	return t.Op == api.ExprNeg || t.Op == api.ExprArith || slices.ContainsFunc(t.Kids, reckons)
}

func split(tests []api.Term) []api.Term {
	var l []api.Term
	for _, t := range tests {
		if t.Op == api.ExprAnd {
			l = append(l, split(t.Kids)...)
		} else {
			l = append(l, t)
		}
	}
	return l
}

// bond is what a conjunct binds: a column of a table, by a comparison, to a known term.
type bond struct {
	column, by int
	to         api.Term
}

func (x target) bonds(conjuncts []api.Term) []bond {
	var l []bond
	for _, t := range conjuncts {
		if t.Op != api.ExprCompare || t.Num == api.CmpNe {
			continue
		}
		left, right := t.Kids[0], t.Kids[1]
		switch {
		case x.has(left) && x.known(right):
			l = append(l, bond{left.Num - x.begins, t.Num, right})
		case x.has(right) && x.known(left):
			l = append(l, bond{right.Num - x.begins, turned[t.Num], left})
		}
	}
	return l
}

// has tells whether a term is a column of the table.
func (x target) has(t api.Term) bool {
	return t.Op == api.ExprColumn && x.begins <= t.Num && t.Num < x.begins+len(x.table.Columns)
}

// best is the first of the accesses to the table that are as good as any. All rows come first: that access is it where none is better.
func (x target) best(conjuncts []api.Term) api.Access {
	bonds := x.bonds(conjuncts)
	var l []api.Access
	var most merit
	for _, f := range x.forms() {
		a := fill(f, x.columns(f), bonds)
		l = append(l, a)
		most = greater(most, meritOf(a))
	}
	return l[slices.IndexFunc(l, func(a api.Access) bool { return meritOf(a) == most })]
}

func greater(a, b merit) merit {
	if a.fixed > b.fixed || a.fixed == b.fixed && a.bounds > b.bounds {
		return a
	}
	return b
}

// fill is the access of a form that takes as much of the bonds as it can.
func fill(f form, columns []int, bonds []bond) api.Access {
	a := api.Access{Table: f.table, Way: f.way, Index: f.index}
	for _, column := range columns {
		equal := first(bonds, column, api.CmpEq, api.CmpEq)
		if equal == nil {
			low, high := first(bonds, column, api.CmpGt, api.CmpGe), first(bonds, column, api.CmpLt, api.CmpLe)
			a.Low, a.High = to(low), to(high)
			a.LowOpen, a.HighOpen = by(low, api.CmpGt), by(high, api.CmpLt)
			break
		}
		a.Fixed = append(a.Fixed, to(equal)...)
	}
	return a
}

// first is the first bond of a column by one of two comparisons, or none.
func first(l []bond, column, one, other int) []bond {
	i := slices.IndexFunc(l, func(b bond) bool { return b.column == column && (b.by == one || b.by == other) })
	if i < 0 {
		return nil
	}
	return l[i : i+1]
}

func to(l []bond) []api.Term {
	var terms []api.Term
	for _, b := range l {
		terms = append(terms, b.to)
	}
	return terms
}

func by(l []bond, comparison int) bool {
	return slices.ContainsFunc(l, func(b bond) bool { return b.by == comparison })
}
