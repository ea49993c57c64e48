package check

import (
	"strings"

	"unison/api"
)

// only asks of a type whether it is the wanted one. What is always NULL may stand for each.
func only(want int) func(kind int) bool {
	return func(kind int) bool { return kind == want || kind == 0 }
}

// like asks of a type whether what has it may be held against what has another one.
func like(other int) func(kind int) bool {
	return func(kind int) bool { return other == 0 || only(other)(kind) }
}

// kidsOf is what a kind of expressions asks of the type of each Kid.
func kidsOf(kind int) func(kind int) bool {
	switch kind {
	case api.ExprNeg, api.ExprArith, api.ExprSum:
		return only(api.Int)
	case api.ExprNot, api.ExprAnd, api.ExprOr:
		return only(api.Bool)
	}
	return func(int) bool { return true }
}

// fitting is an expression's term, if its type is what is asked.
func (a *asker) fitting(e api.Expr, fits func(kind int) bool) (api.Term, api.Fault) {
	t, f := a.term(e)
	if f.Code != api.OK {
		return api.Term{}, f
	}
	if !fits(t.Type) {
		return api.Term{}, api.Fault{Code: api.ErrType, At: e.At}
	}
	return t, api.Fault{}
}

func (a *asker) term(e api.Expr) (api.Term, api.Fault) {
	switch e.Kind {
	case api.ExprValue:
		v := api.Value{Kind: e.Value.Kind, Int: e.Value.Int, Text: strings.Clone(e.Value.Text)}
		return api.Term{Op: e.Kind, Type: v.Kind, Value: v}, api.Fault{}
	case api.ExprParam, api.ExprColumn:
		m, code := a.names.find(spelling{e.Kind, e.Table, e.Name})
		if code != api.OK {
			return api.Term{}, api.Fault{Code: code, At: e.At}
		}
		return api.Term{Op: e.Kind, Num: m.place, Type: m.kind}, api.Fault{}
	}
	kids, f := a.kids(e)
	if f.Code != api.OK {
		return api.Term{}, f
	}
	return api.Term{Op: e.Kind, Num: e.Op, Type: typeOver(e.Kind, kids), Kids: kids}, api.Fault{}
}

// kids are the terms of an expression's Kids. Their types are asked when all of them are known.
func (a *asker) kids(e api.Expr) ([]api.Term, api.Fault) {
	var kids []api.Term
	for _, k := range e.Kids {
		t, f := a.term(k)
		if f.Code != api.OK {
			return nil, f
		}
		kids = append(kids, t)
	}
	fits := kidsOf(e.Kind)
	for i, t := range kids {
		if !fits(t.Type) {
			return nil, api.Fault{Code: api.ErrType, At: e.Kids[i].At}
		}
	}
	if e.Kind == api.ExprCompare && !like(kids[0].Type)(kids[1].Type) {
		return nil, api.Fault{Code: api.ErrType, At: e.At}
	}
	return kids, api.Fault{}
}

// typeOver is the type of an expression of a kind over some Kids.
func typeOver(kind int, kids []api.Term) int {
	switch kind {
	case api.ExprNeg, api.ExprArith, api.ExprCount, api.ExprSum:
		return api.Int
	case api.ExprMin, api.ExprMax:
		return kids[0].Type
	}
	return api.Bool
}
