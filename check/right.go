package check

import (
	"slices"

	"unison/api"
)

// Right tells whether a typed statement may be. One that may be is what the statement comes to that has its parts, each column written with its table: so that one is asked. How deep the terms are comes first: nothing behind that goes down without end.
func Right(c api.Catalog, params []api.Param, t api.Typed) bool {
	if deep(t) {
		return false
	}
	told, f := Check(c, params, untyped(c, params, t))
	return f.Code == api.OK && same(told, t)
}

// deep tells whether one of the terms is deeper than those of expressions.
func deep(t api.Typed) bool {
	return slices.ContainsFunc(slices.Concat(t.On, t.Where, t.Items), func(x api.Term) bool { return deeper(x, api.MaxDepth) })
}

func deeper(t api.Term, depth int) bool {
	return depth == 0 || slices.ContainsFunc(t.Kids, func(kid api.Term) bool { return deeper(kid, depth-1) })
}

// untyped is a statement that has a typed one's parts. A select with more items than may be listed has them by a star.
func untyped(c api.Catalog, params []api.Param, t api.Typed) api.Stmt {
	s := api.Stmt{Kind: t.Kind, Sorts: t.Sorts, Limit: t.Limit}
	n := namer{params: params}
	for i, place := range t.Tables {
		x := at(c.Tables, place)
		n.addColumns(x)
		if i == 0 {
			s.Table = x.Name
		} else {
			s.Join = x.Name
		}
	}
	s.On, s.Where = n.exprs(t.On), n.exprs(t.Where)
	switch {
	case t.Kind == api.StmtUpdate:
		s.Sets = n.sets(t.Columns, n.exprs(t.Items))
	case t.Kind == api.StmtSelect && len(t.Items) > api.MaxItems:
		s.Star = true
	default:
		s.Items = n.exprs(t.Items)
	}
	for _, place := range t.Groups {
		s.Groups = append(s.Groups, at(n.columns, place))
	}
	return s
}

// at is what stands at a place. At one that is none there is nothing that a right statement has.
func at[T any](l []T, place int) T {
	if place < 0 || place >= len(l) {
		return *new(T)
	}
	return l[place]
}

// namer turns places into names again.
type namer struct {
	params  []api.Param
	columns []api.Expr
}

func (n *namer) addColumns(t api.Table) {
	for _, c := range t.Columns {
		n.columns = append(n.columns, api.Expr{Kind: api.ExprColumn, Table: t.Name, Name: c.Name})
	}
}

func (n *namer) sets(columns []int, items []api.Expr) []api.Set {
	var l []api.Set
	for i, place := range columns {
		l = append(l, api.Set{Name: at(n.columns, place).Name, Expr: at(items, i)})
	}
	return l
}

func (n *namer) exprs(l []api.Term) []api.Expr {
	var out []api.Expr
	for _, t := range l {
		out = append(out, n.expr(t))
	}
	return out
}

func (n *namer) expr(t api.Term) api.Expr {
	e := api.Expr{Kind: t.Op, Value: t.Value}
	switch t.Op {
	case api.ExprParam:
		e.Name = at(n.params, t.Num).Name
	case api.ExprColumn:
		e = at(n.columns, t.Num)
	case api.ExprArith, api.ExprCompare, api.ExprNull:
		e.Op = t.Num
	}
	e.Kids = n.exprs(t.Kids)
	return e
}

func same(a, b api.Typed) bool {
	return a.Kind == b.Kind && a.Grouped == b.Grouped &&
		sameTerms(a.On, b.On) && sameTerms(a.Where, b.Where) && sameTerms(a.Items, b.Items) &&
		slices.Equal(a.Tables, b.Tables) && slices.Equal(a.Columns, b.Columns) && slices.Equal(a.Groups, b.Groups) &&
		slices.Equal(a.Sorts, b.Sorts) && slices.Equal(a.Limit, b.Limit) && slices.Equal(a.Types, b.Types)
}

func sameTerms(a, b []api.Term) bool {
	return slices.EqualFunc(a, b, func(x, y api.Term) bool {
		return x.Op == y.Op && x.Num == y.Num && x.Type == y.Type && x.Value == y.Value && sameTerms(x.Kids, y.Kids)
	})
}
