package plan

import (
	"strings"

	"unison/api"
	"unison/value"
)

// line is a right access that is told: with the parameters and the statement's first table, which its terms may name.
type line struct {
	target
	access api.Access
	params []api.Param
	first  api.Table
}

func (l line) text() string {
	s := l.table.Name + ": " + l.way()
	if l.access.Way == api.WayAll {
		return s
	}
	return s + " " + strings.Join(l.tests(), ", ")
}

func (l line) way() string {
	switch l.access.Way {
	case api.WayKey:
		return "key"
	case api.WayIndex:
		return "index " + l.table.Indexes[l.access.Index].Name
	}
	return "all"
}

func (l line) tests() []string {
	columns := l.columns(formOf(l.access))
	name := func(i int) string { return l.table.Columns[columns[i]].Name }
	var tests []string
	for i, t := range l.access.Fixed {
		tests = append(tests, name(i)+" = "+l.term(t))
	}
	next := len(l.access.Fixed)
	for _, t := range l.access.Low {
		tests = append(tests, name(next)+bound(" >", l.access.LowOpen)+l.term(t))
	}
	for _, t := range l.access.High {
		tests = append(tests, name(next)+bound(" <", l.access.HighOpen)+l.term(t))
	}
	return tests
}

// bound is a sign that says whether the bound itself counts.
func bound(sign string, open bool) string {
	if open {
		return sign + " "
	}
	return sign + "= "
}

// term is how a right known term is written.
func (l line) term(t api.Term) string {
	switch t.Op {
	case api.ExprParam:
		return ":" + l.params[t.Num].Name
	case api.ExprColumn:
		return l.first.Name + "." + l.first.Columns[t.Num].Name
	}
	s, _ := value.Print(t.Value)
	return s
}
