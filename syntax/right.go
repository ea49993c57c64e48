package syntax

import (
	"slices"

	"unison/api"
	"unison/lex"
	"unison/value"
)

// Right tells whether a statement is built as those of sources are. How deep it is comes first: nothing behind that goes down without end.
func Right(s api.Stmt) bool {
	if deep(s) || !lex.IsName(s.Table) {
		return false
	}
	switch s.Kind {
	case api.StmtInsert:
		return Same(s, api.Stmt{Kind: s.Kind, Table: s.Table, Items: s.Items}) && within(s.Items, 1, api.MaxColumns, rightExpr)
	case api.StmtUpdate:
		return Same(s, api.Stmt{Kind: s.Kind, Table: s.Table, Sets: s.Sets, Where: s.Where}) && within(s.Sets, 1, api.MaxColumns, rightSet) && within(s.Where, 0, 1, rightExpr)
	case api.StmtDelete:
		return Same(s, api.Stmt{Kind: s.Kind, Table: s.Table, Where: s.Where}) && within(s.Where, 0, 1, rightExpr)
	case api.StmtSelect:
		return rightSelect(s)
	}
	return false
}

// Same tells whether two statements say the same, wherever their parts stand.
func Same(a, b api.Stmt) bool {
	return a.Kind == b.Kind && a.Table == b.Table && a.Join == b.Join && a.Star == b.Star &&
		sameExprs(a.On, b.On) && sameExprs(a.Where, b.Where) && sameExprs(a.Items, b.Items) && sameExprs(a.Groups, b.Groups) &&
		slices.EqualFunc(a.Sets, b.Sets, sameSet) && slices.EqualFunc(a.Sorts, b.Sorts, sameSort) && slices.Equal(a.Limit, b.Limit)
}

func sameExprs(a, b []api.Expr) bool { return slices.EqualFunc(a, b, sameExpr) }

func sameExpr(a, b api.Expr) bool {
	return a.Kind == b.Kind && a.Op == b.Op && a.Value == b.Value && a.Table == b.Table && a.Name == b.Name && sameExprs(a.Kids, b.Kids)
}

func sameSet(a, b api.Set) bool { return a.Name == b.Name && sameExpr(a.Expr, b.Expr) }

func sameSort(a, b api.Sort) bool { return a.Item == b.Item && a.Desc == b.Desc }

// deep tells whether one of a statement's expressions is deeper than may be.
func deep(s api.Stmt) bool {
	tooDeep := func(e api.Expr) bool { return deeper(e, api.MaxDepth) }
	for _, l := range [][]api.Expr{s.On, s.Where, s.Items, s.Groups} {
		if slices.ContainsFunc(l, tooDeep) {
			return true
		}
	}
	return slices.ContainsFunc(s.Sets, func(x api.Set) bool { return tooDeep(x.Expr) })
}

func deeper(e api.Expr, depth int) bool {
	return depth == 0 || slices.ContainsFunc(e.Kids, func(kid api.Expr) bool { return deeper(kid, depth-1) })
}

// within tells whether a list has so many parts, all of which are right.
func within[T any](l []T, least, most int, right func(T) bool) bool {
	return least <= len(l) && len(l) <= most && !slices.ContainsFunc(l, func(x T) bool { return !right(x) })
}

func rightSelect(s api.Stmt) bool {
	return len(s.Sets) == 0 &&
		s.Star == (len(s.Items) == 0) && within(s.Items, 0, api.MaxItems, rightItem) &&
		nameOrNone(s.Join) && (s.Join == "") == (len(s.On) == 0) && within(s.On, 0, 1, rightExpr) &&
		within(s.Where, 0, 1, rightExpr) &&
		within(s.Groups, 0, api.MaxItems, rightColumn) &&
		within(s.Sorts, 0, api.MaxItems, rightSort) &&
		within(s.Limit, 0, 1, rightNumber)
}

func nameOrNone(s string) bool { return s == "" || lex.IsName(s) }

func rightNumber(n int) bool { return 0 <= n && n <= api.MaxInt }

func rightSort(s api.Sort) bool { return rightNumber(s.Item) }

func rightSet(s api.Set) bool { return lex.IsName(s.Name) && rightExpr(s.Expr) }

func rightColumn(e api.Expr) bool { return e.Kind == api.ExprColumn && rightExpr(e) }

func rightExpr(e api.Expr) bool {
	switch e.Kind {
	case api.ExprCount, api.ExprSum, api.ExprMin, api.ExprMax:
		return false
	}
	return rightItem(e)
}

// rightItem takes all that expressions are, and besides what an item alone may be.
func rightItem(e api.Expr) bool {
	f := formOf(e.Kind)
	return f.lowOp <= e.Op && e.Op <= f.highOp && within(e.Kids, f.leastKids, f.mostKids, rightExpr) && rightWords(e)
}

// form is what the expressions of a kind have for Op and Kids.
type form struct{ lowOp, highOp, leastKids, mostKids int }

// formOf is the form of a kind. What is no kind has one that nothing fits.
func formOf(kind int) form {
	switch kind {
	case api.ExprValue, api.ExprParam, api.ExprColumn, api.ExprCount:
		return form{}
	case api.ExprNeg, api.ExprNot, api.ExprSum, api.ExprMin, api.ExprMax:
		return form{leastKids: 1, mostKids: 1}
	case api.ExprArith:
		return form{api.OpAdd, api.OpMod, 2, 2}
	case api.ExprCompare:
		return form{api.CmpEq, api.CmpGe, 2, 2}
	case api.ExprNull:
		return form{0, 1, 1, 1}
	case api.ExprAnd, api.ExprOr:
		return form{leastKids: 2, mostKids: api.MaxKids}
	}
	return form{leastKids: 1}
}

// rightWords tells whether an expression's names and its Value are those of its kind.
func rightWords(e api.Expr) bool {
	switch e.Kind {
	case api.ExprValue:
		return e.Table == "" && e.Name == "" && isLiteral(e.Value)
	case api.ExprParam:
		return e.Table == "" && lex.IsName(e.Name) && e.Value == api.Value{}
	case api.ExprColumn:
		return nameOrNone(e.Table) && lex.IsName(e.Name) && e.Value == api.Value{}
	}
	return e.Table == "" && e.Name == "" && e.Value == api.Value{}
}

// isLiteral tells whether a token says a value. No token says a number below 0.
func isLiteral(v api.Value) bool { return value.Right(v) && v.Int >= 0 }
