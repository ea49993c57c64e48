package denote

import (
	"unison/api"
	"unison/value"
)

// maxNested is how deep a term may be: beyond what is promised of any, so that one which has itself within comes to an end.
const maxNested = 1 << 17

// rightTerm tells whether a term may be worked out in a row of so many columns, with so many arguments.
func rightTerm(t api.Term, columns, args, nested int) bool {
	switch t.Op {
	case api.ExprValue:
		return true
	case api.ExprParam:
		return 0 <= t.Num && t.Num < args
	case api.ExprColumn:
		return 0 <= t.Num && t.Num < columns
	}
	if nested == 0 || !rightKids(t) {
		return false
	}
	for _, kid := range t.Kids {
		if !rightTerm(kid, columns, args, nested-1) {
			return false
		}
	}
	return true
}

// rightKids tells whether a term is one that has Kids, and as many as it must.
func rightKids(t api.Term) bool {
	switch t.Op {
	case api.ExprNeg, api.ExprNull, api.ExprNot:
		return len(t.Kids) == 1
	case api.ExprArith, api.ExprCompare:
		return len(t.Kids) == 2
	case api.ExprAnd, api.ExprOr:
		return true
	}
	return false
}

// asked is a term that is worked out: where it stands, and what its Kids have come to.
type asked struct {
	term            api.Term
	row, args, kids []api.Value
}

// operations are what is done with the terms of each Op.
func operations() []func(asked) (api.Value, api.Errno) {
	return []func(asked) (api.Value, api.Errno){
		api.ExprValue:   asked.value,
		api.ExprParam:   asked.param,
		api.ExprColumn:  asked.column,
		api.ExprNeg:     asked.neg,
		api.ExprArith:   asked.arith,
		api.ExprCompare: asked.compare,
		api.ExprNull:    asked.null,
		api.ExprNot:     asked.not,
		api.ExprAnd:     asked.and,
		api.ExprOr:      asked.or,
	}
}

func (a asked) value() (api.Value, api.Errno)  { return a.term.Value, api.OK }
func (a asked) param() (api.Value, api.Errno)  { return a.args[a.term.Num], api.OK }
func (a asked) column() (api.Value, api.Errno) { return a.row[a.term.Num], api.OK }
func (a asked) neg() (api.Value, api.Errno)    { return value.Neg(a.kids[0]) }
func (a asked) not() (api.Value, api.Errno)    { return value.Not(a.kids[0]) }
func (a asked) and() (api.Value, api.Errno)    { return value.And(a.kids...) }
func (a asked) or() (api.Value, api.Errno)     { return value.Or(a.kids...) }

func (a asked) arith() (api.Value, api.Errno) {
	return value.Arith(a.term.Num, a.kids[0], a.kids[1])
}

func (a asked) compare() (api.Value, api.Errno) {
	return value.Compare(a.term.Num, a.kids[0], a.kids[1])
}

func (a asked) null() (api.Value, api.Errno) {
	if isNull(a.kids[0]) == (a.term.Num != 1) {
		return api.Value{Kind: api.Bool, Int: 1}, api.OK
	}
	return api.Value{Kind: api.Bool}, api.OK
}

// reckoner works terms out, with some arguments, as the operations say.
type reckoner struct {
	args       []api.Value
	operations []func(asked) (api.Value, api.Errno)
}

// value is what a right term comes to in a row. Kids of the first three Ops are not looked at.
func (r reckoner) value(t api.Term, row []api.Value) (api.Value, api.Errno) {
	a := asked{term: t, row: row, args: r.args}
	if t.Op > api.ExprColumn {
		for _, kid := range t.Kids {
			v, e := r.value(kid, row)
			if e != api.OK {
				return api.Value{}, e
			}
			a.kids = append(a.kids, v)
		}
	}
	return r.operations[t.Op](a)
}
