package denote

import (
	"slices"

	"unison/api"
	"unison/value"
)

// group is some of the chosen rows, of which an item is told.
type group struct {
	run  *run
	rows [][]api.Value
	item api.Term
}

// overGroups are what is told of a group by the items of each Op.
func overGroups() []func(group) api.Value {
	return []func(group) api.Value{
		api.ExprColumn: group.column,
		api.ExprCount:  group.count,
		api.ExprSum:    group.sum,
		api.ExprMin:    group.first,
		api.ExprMax:    group.last,
	}
}

// groups are the chosen rows by their groups. Without Groups there is one, even of no rows.
func (r *run) groups(chosen [][]api.Value) [][][]api.Value {
	if len(r.typed.Groups) == 0 {
		return [][][]api.Value{chosen}
	}
	order := by(r.typed.Groups)
	slices.SortStableFunc(chosen, order)
	var l [][][]api.Value
	for from, to := 0, 0; to < len(chosen); from = to {
		for to < len(chosen) && order(chosen[from], chosen[to]) == 0 {
			to++
		}
		l = append(l, chosen[from:to])
	}
	return l
}

// groupItems is the row that is told of a group.
func (r *run) groupItems(rows [][]api.Value) []api.Value {
	tell := overGroups()
	var l []api.Value
	for _, t := range r.typed.Items {
		l = append(l, tell[t.Op](group{r, rows, t}))
	}
	return l
}

// column is one of the Groups, so that all rows of the group have its value.
func (g group) column() api.Value { return g.rows[0][g.item.Num] }

func (g group) count() api.Value { return api.Value{Kind: api.Int, Int: len(g.rows)} }

// sum is not asked for where the Kid has an error: what is left of its values might have another one.
func (g group) sum() api.Value {
	l, e := g.kid()
	if e != api.OK {
		return api.Value{}
	}
	v, e := value.Sum(l...)
	g.run.meet(e)
	return v
}

func (g group) first() api.Value {
	if l := g.known(); len(l) > 0 {
		return slices.MinFunc(l, value.Order)
	}
	return api.Value{}
}

func (g group) last() api.Value {
	if l := g.known(); len(l) > 0 {
		return slices.MaxFunc(l, value.Order)
	}
	return api.Value{}
}

// known are the Kid's values that are not NULL.
func (g group) known() []api.Value {
	l, _ := g.kid()
	return slices.DeleteFunc(l, isNull)
}

// kid is what the item's Kid comes to in all rows, and an error that it has there.
func (g group) kid() ([]api.Value, api.Errno) {
	var l []api.Value
	var met api.Errno
	for _, row := range g.rows {
		v, e := g.run.work(g.item.Kids[0], row)
		l = append(l, v)
		met = max(met, e)
	}
	return l, met
}
