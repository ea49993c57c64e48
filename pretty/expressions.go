package pretty

import (
	"unison/api"
	"unison/value"
)

// The ranks of expressions: the higher one's is, the closer its parts hold together.
const (
	rankOr = 1 + iota
	rankAnd
	rankNot
	rankTest
	rankSum
	rankProduct
	rankFactor
)

func rank(e api.Expr) int {
	switch e.Kind {
	case api.ExprOr:
		return rankOr
	case api.ExprAnd:
		return rankAnd
	case api.ExprNot:
		return rankNot
	case api.ExprCompare, api.ExprNull:
		return rankTest
	case api.ExprArith:
		if e.Op == api.OpAdd || e.Op == api.OpSub {
			return rankSum
		}
		return rankProduct
	}
	return rankFactor
}

// whole lays an expression that stands for itself: no brackets are needed round it.
func (l *line) whole(e api.Expr) { l.expr(e, rankOr) }

// expr lays an expression where a rank is needed. A line that is too long already gets no more of them: how great the statement is then doesn't matter.
func (l *line) expr(e api.Expr, need int) {
	if l.tooLong() {
		return
	}
	if rank(e) >= need {
		l.bare(e)
		return
	}
	l.lay("(")
	l.bare(e)
	l.lay(")")
}

// bare lays an expression without brackets round it.
func (l *line) bare(e api.Expr) {
	switch e.Kind {
	case api.ExprValue:
		literal, _ := value.Print(e.Value)
		l.lay(literal)
	case api.ExprParam:
		l.lay(":", e.Name)
	case api.ExprColumn:
		l.column(e)
	case api.ExprNeg:
		l.neg(e.Kids[0])
	case api.ExprArith: // read from the left: what stands right of the sign must hold closer together
		l.pair(e, arithSign(e.Op), rank(e), rank(e)+1)
	case api.ExprCompare:
		l.pair(e, compareSign(e.Op), rankSum, rankSum)
	case api.ExprNull:
		l.null(e)
	case api.ExprNot:
		l.lay("NOT ")
		l.expr(e.Kids[0], rankNot)
	case api.ExprAnd:
		l.row(e.Kids, " AND ", rankNot)
	case api.ExprOr:
		l.row(e.Kids, " OR ", rankAnd)
	case api.ExprCount:
		l.lay("COUNT(*)")
	case api.ExprSum:
		l.overRows("SUM(", e.Kids[0])
	case api.ExprMin:
		l.overRows("MIN(", e.Kids[0])
	case api.ExprMax:
		l.overRows("MAX(", e.Kids[0])
	}
}

func (l *line) column(e api.Expr) {
	if e.Table != "" {
		l.lay(e.Table, ".")
	}
	l.lay(e.Name)
}

// neg parts the signs of two that stand one behind the other, as both together would begin a remark. Nothing but a neg begins with the sign: no literal of a right statement is below 0.
func (l *line) neg(kid api.Expr) {
	l.lay("-")
	if kid.Kind == api.ExprNeg {
		l.lay(" ")
	}
	l.expr(kid, rankFactor)
}

func (l *line) pair(e api.Expr, sign string, left, right int) {
	l.expr(e.Kids[0], left)
	l.lay(" ", sign, " ")
	l.expr(e.Kids[1], right)
}

func (l *line) null(e api.Expr) {
	l.expr(e.Kids[0], rankSum)
	if e.Op == 1 {
		l.lay(" IS NOT NULL")
	} else {
		l.lay(" IS NULL")
	}
}

func (l *line) row(kids []api.Expr, word string, need int) {
	layList(l, "", word, kids, func(kid api.Expr) { l.expr(kid, need) })
}

func (l *line) overRows(word string, kid api.Expr) {
	l.lay(word)
	l.whole(kid)
	l.lay(")")
}

func arithSign(op int) string {
	switch op {
	case api.OpAdd:
		return "+"
	case api.OpSub:
		return "-"
	case api.OpMul:
		return "*"
	case api.OpDiv:
		return "/"
	}
	return "%"
}

func compareSign(op int) string {
	switch op {
	case api.CmpEq:
		return "="
	case api.CmpNe:
		return "<>"
	case api.CmpLt:
		return "<"
	case api.CmpLe:
		return "<="
	case api.CmpGt:
		return ">"
	}
	return ">="
}
