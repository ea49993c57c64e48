package check

import "unison/api"

// spelling is a name as a statement may write it; the kind tells a parameter's from a column's. Of a column the table may be left out.
type spelling struct {
	kind        int
	table, name string
}

// meaning is what a name says: the parameter's place, or the column's in the long row; its type; and how many there are that are spelt so.
type meaning struct{ place, kind, many int }

// names are all that a statement's expressions may write.
type names map[spelling]meaning

func (n names) add(s spelling, place, kind int) {
	n[s] = meaning{place, kind, n[s].many + 1}
}

func (n names) find(s spelling) (meaning, api.Errno) {
	m := n[s]
	switch m.many {
	case 0:
		return meaning{}, api.ErrNone
	case 1:
		return m, api.OK
	}
	return meaning{}, api.ErrTwice
}

func (a *asker) nameParams(params []api.Param) {
	for i, p := range params {
		a.names.add(spelling{kind: api.ExprParam, name: p.Name}, i, p.Type)
	}
}

// nameColumns puts the columns of a table behind the long row, and names them, with their table and without.
func (a *asker) nameColumns(t api.Table) {
	for _, c := range t.Columns {
		place := len(a.long)
		a.long = append(a.long, api.Term{Op: api.ExprColumn, Num: place, Type: c.Type})
		a.names.add(spelling{kind: api.ExprColumn, name: c.Name}, place, c.Type)
		a.names.add(spelling{kind: api.ExprColumn, table: t.Name, name: c.Name}, place, c.Type)
	}
}
