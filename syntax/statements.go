package syntax

import "unison/api"

func (p *parser) statement() api.Stmt {
	at := p.at()
	var s api.Stmt
	switch {
	case p.skip("INSERT"):
		s = p.insertion()
	case p.skip("UPDATE"):
		s = p.update()
	case p.skip("DELETE"):
		s = p.deletion()
	case p.skip("SELECT"):
		s = p.selection()
	default:
		p.giveUp()
	}
	s.At = at
	return s
}

func (p *parser) insertion() api.Stmt {
	s := api.Stmt{Kind: api.StmtInsert}
	p.need("INTO")
	s.Table = p.name()
	p.need("VALUES", "(")
	s.Items = list(p, api.MaxColumns, (*parser).expr)
	p.need(")")
	return s
}

func (p *parser) update() api.Stmt {
	s := api.Stmt{Kind: api.StmtUpdate}
	s.Table = p.name()
	p.need("SET")
	s.Sets = list(p, api.MaxColumns, (*parser).set)
	s.Where = p.where()
	return s
}

func (p *parser) set() api.Set {
	s := api.Set{At: p.at()}
	s.Name = p.name()
	p.need("=")
	s.Expr = p.expr()
	return s
}

func (p *parser) deletion() api.Stmt {
	s := api.Stmt{Kind: api.StmtDelete}
	p.need("FROM")
	s.Table = p.name()
	s.Where = p.where()
	return s
}

func (p *parser) selection() api.Stmt {
	s := api.Stmt{Kind: api.StmtSelect}
	s.Star = p.skip("*")
	if !s.Star {
		s.Items = list(p, api.MaxItems, (*parser).item)
	}
	p.need("FROM")
	s.Table = p.name()
	if p.skip("JOIN") {
		s.JoinAt = p.at()
		s.Join = p.name()
		p.need("ON")
		s.On = []api.Expr{p.expr()}
	}
	s.Where = p.where()
	if p.skip("GROUP") {
		p.need("BY")
		s.Groups = list(p, api.MaxItems, (*parser).column)
	}
	if p.skip("ORDER") {
		p.need("BY")
		s.Sorts = list(p, api.MaxItems, (*parser).sort)
	}
	if p.skip("LIMIT") {
		s.Limit = []int{p.take(api.TokNumber).Num}
	}
	return s
}

func (p *parser) sort() api.Sort {
	t := p.take(api.TokNumber)
	return api.Sort{Item: t.Num, Desc: p.skip("DESC"), At: t.At}
}

// where is the one expression behind WHERE; or none.
func (p *parser) where() []api.Expr {
	if !p.skip("WHERE") {
		return nil
	}
	return []api.Expr{p.expr()}
}
