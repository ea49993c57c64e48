package exec

import (
	"maps"
	"slices"

	"unison/api"
	"unison/value"
)

// told are the rows of a select as they are answered.
func (r *run) told() rows {
	shape := r.shaped
	if r.typed.Grouped {
		shape = r.grouped
	}
	l := r.ordered(shape(r.chosen()))
	for _, most := range r.typed.Limit {
		l = first(most, l)
	}
	return l
}

// shaped are the Items' values of rows.
func (r *run) shaped(below rows) rows {
	return func(yield func([]api.Value) bool) {
		for row := range below {
			if !yield(r.items(row)) {
				return
			}
		}
	}
}

// grouped are the rows that are told of the groups into which rows fall.
func (r *run) grouped(below rows) rows {
	return func(yield func([]api.Value) bool) {
		groups := r.groups(below)
		for _, name := range slices.Sorted(maps.Keys(groups)) {
			if !yield(r.summary(groups[name])) {
				return
			}
		}
	}
}

// groups are rows under the keys of their values in the Groups: these rise as the groups are told. Without Groups there is one, even of no rows.
func (r *run) groups(below rows) map[string][][]api.Value {
	groups := map[string][][]api.Value{}
	if len(r.typed.Groups) == 0 {
		groups[""] = nil
	}
	for row := range below {
		name := encode(pick(row, r.typed.Groups))
		groups[name] = append(groups[name], row)
	}
	return groups
}

// summary is the row that is told of a group.
func (r *run) summary(group [][]api.Value) []api.Value {
	var l []api.Value
	for _, t := range r.typed.Items {
		l = append(l, r.overGroup(t, group))
	}
	return l
}

// overGroup is what an item tells of a group. A column is one of the Groups, so that all rows have its value.
func (r *run) overGroup(t api.Term, group [][]api.Value) api.Value {
	switch t.Op {
	case api.ExprCount:
		return api.Value{Kind: api.Int, Int: len(group)}
	case api.ExprColumn:
		v, _ := r.value(t, group[0])
		return v
	}
	l, fine := r.kid(t, group)
	if t.Op == api.ExprSum {
		return r.sum(l, fine)
	}
	l = slices.DeleteFunc(l, func(v api.Value) bool { return v.Kind == api.Null })
	switch {
	case len(l) == 0:
		return api.Value{}
	case t.Op == api.ExprMin:
		return slices.MinFunc(l, value.Order)
	}
	return slices.MaxFunc(l, value.Order)
}

// kid is what an aggregate's Kid comes to in all rows of a group, and whether it has no error there.
func (r *run) kid(t api.Term, group [][]api.Value) ([]api.Value, bool) {
	var l []api.Value
	fine := true
	for _, row := range group {
		v, e := r.value(t.Kids[0], row)
		l = append(l, v)
		fine = fine && e == api.OK
	}
	return l, fine
}

// sum is worked out only where the values are fine: what is left of others might have an error of its own.
func (r *run) sum(l []api.Value, fine bool) api.Value {
	if !fine {
		return api.Value{}
	}
	v, e := value.Sum(l...)
	r.meet(e)
	return v
}

// ordered are rows as the statement's sorts say, of which none comes out ahead of the last one's coming in.
func (r *run) ordered(below rows) rows {
	return func(yield func([]api.Value) bool) {
		var l [][]api.Value
		for row := range below {
			l = append(l, row)
		}
		slices.SortStableFunc(l, r.sorted)
		for _, row := range l {
			if !yield(row) {
				return
			}
		}
	}
}

// sorted orders two rows as the statement's sorts say.
func (r *run) sorted(a, b []api.Value) int {
	for _, s := range r.typed.Sorts {
		order := value.Order(a[s.Item-1], b[s.Item-1])
		if s.Desc {
			order = -order
		}
		if order != 0 {
			return order
		}
	}
	return 0
}

// first are the first so many rows.
func first(most int, below rows) rows {
	return func(yield func([]api.Value) bool) {
		left := most
		for row := range below {
			if left == 0 || !yield(row) {
				return
			}
			left--
		}
	}
}
