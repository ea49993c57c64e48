package syntax

import "unison/api"

// item is one of a select: here alone the words of many rows may stand.
func (p *parser) item() api.Expr {
	at := p.at()
	switch {
	case p.skip("COUNT"):
		p.need("(", "*", ")")
		return api.Expr{Kind: api.ExprCount, At: at}
	case p.skip("SUM"):
		return p.overRows(api.ExprSum, at)
	case p.skip("MIN"):
		return p.overRows(api.ExprMin, at)
	case p.skip("MAX"):
		return p.overRows(api.ExprMax, at)
	}
	return p.expr()
}

func (p *parser) overRows(kind, at int) api.Expr {
	p.need("(")
	kid := p.expr()
	p.need(")")
	return over(kind, 0, at, kid)
}

// over is an expression of a kind over its Kids.
func over(kind, op, at int, kids ...api.Expr) api.Expr {
	return api.Expr{Kind: kind, Op: op, Kids: kids, At: at}
}

func (p *parser) expr() api.Expr { return p.row(api.ExprOr, "OR", (*parser).and) }

func (p *parser) and() api.Expr { return p.row(api.ExprAnd, "AND", (*parser).not) }

// row reads parts with a word between them. One part without the word is no row.
func (p *parser) row(kind int, word string, part func(*parser) api.Expr) api.Expr {
	first := part(p)
	if !p.sees(word) {
		return first
	}
	row := over(kind, 0, p.at(), first)
	for p.skip(word) {
		p.counted(len(row.Kids), api.MaxKids)
		row.Kids = append(row.Kids, part(p))
	}
	return row
}

func (p *parser) not() api.Expr {
	at := p.at()
	if p.skip("NOT") {
		return over(api.ExprNot, 0, at, p.not())
	}
	return p.test()
}

func (p *parser) test() api.Expr {
	left := p.sum()
	at := p.at()
	if p.skip("IS") {
		op := 0
		if p.skip("NOT") {
			op = 1
		}
		p.need("NULL")
		return over(api.ExprNull, op, at, left)
	}
	if op := p.operation(sign{"=", api.CmpEq}, sign{"<>", api.CmpNe}, sign{"<", api.CmpLt}, sign{"<=", api.CmpLe}, sign{">", api.CmpGt}, sign{">=", api.CmpGe}); op != 0 {
		return over(api.ExprCompare, op, at, left, p.sum())
	}
	return left
}

// sign is one, and what it stands for.
type sign struct {
	text string
	op   int
}

// operation goes over one of some signs, and tells what it stands for; 0: none of them is next.
func (p *parser) operation(l ...sign) int {
	for _, x := range l {
		if p.skip(x.text) {
			return x.op
		}
	}
	return 0
}

func (p *parser) sum() api.Expr {
	return p.leftward((*parser).product, sign{"+", api.OpAdd}, sign{"-", api.OpSub})
}

func (p *parser) product() api.Expr {
	return p.leftward((*parser).factor, sign{"*", api.OpMul}, sign{"/", api.OpDiv}, sign{"%", api.OpMod})
}

// leftward reads parts with signs between them: what stands left of a sign is its first Kid.
func (p *parser) leftward(part func(*parser) api.Expr, signs ...sign) api.Expr {
	left := part(p)
	for {
		at := p.at()
		op := p.operation(signs...)
		if op == 0 {
			return left
		}
		left = over(api.ExprArith, op, at, left, part(p))
	}
}

func (p *parser) factor() api.Expr {
	at := p.at()
	switch {
	case p.skip("-"):
		return over(api.ExprNeg, 0, at, p.factor())
	case p.skip("("):
		e := p.expr()
		p.need(")")
		return e
	case p.token().Kind == api.TokName:
		return p.column()
	case p.token().Kind == api.TokParam:
		return api.Expr{Kind: api.ExprParam, Name: p.take(api.TokParam).Text, At: at}
	}
	return api.Expr{Kind: api.ExprValue, Value: p.literal(), At: at}
}

func (p *parser) literal() api.Value {
	switch {
	case p.skip("NULL"):
		return api.Value{}
	case p.skip("FALSE"):
		return api.Value{Kind: api.Bool}
	case p.skip("TRUE"):
		return api.Value{Kind: api.Bool, Int: 1}
	case p.token().Kind == api.TokText:
		return api.Value{Kind: api.Text, Text: p.take(api.TokText).Text}
	}
	return api.Value{Kind: api.Int, Int: p.take(api.TokNumber).Num}
}

func (p *parser) column() api.Expr {
	e := api.Expr{Kind: api.ExprColumn, At: p.at()}
	e.Name = p.name()
	if p.skip(".") {
		e.Table = e.Name
		e.Name = p.name()
	}
	return e
}
