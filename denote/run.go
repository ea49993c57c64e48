package denote

import (
	"slices"

	"unison/api"
	"unison/value"
)

// run is a right statement that is gone through, over the rows of its tables. What is wrong with a term stops nothing: the least error is kept.
type run struct {
	reckoner
	typed  api.Typed
	tables []api.Table
	rows   [][][]api.Value
	least  api.Errno
}

// statements are what is done with those of each Kind: what they tell, and the rows that they leave in their table.
func statements() []func(*run) (api.Result, [][]api.Value, api.Errno) {
	return []func(*run) (api.Result, [][]api.Value, api.Errno){
		api.StmtInsert: (*run).insert,
		api.StmtUpdate: (*run).update,
		api.StmtDelete: (*run).remove,
		api.StmtSelect: (*run).choose,
	}
}

// meet keeps an error, if it is less than those that were met.
func (r *run) meet(e api.Errno) {
	if e != api.OK && (r.least == api.OK || e < r.least) {
		r.least = e
	}
}

// work is what a term comes to in a row; with an error it is nothing that holds.
func (r *run) work(t api.Term, row []api.Value) (api.Value, api.Errno) {
	v, e := r.value(t, row)
	r.meet(e)
	return v, e
}

// holds tells whether a test, if there is one, is TRUE of a row.
func (r *run) holds(test []api.Term, row []api.Value) bool {
	for _, t := range test {
		if v, _ := r.work(t, row); v != (api.Value{Kind: api.Bool, Int: 1}) {
			return false
		}
	}
	return true
}

func (r *run) items(row []api.Value) []api.Value {
	var l []api.Value
	for _, t := range r.typed.Items {
		v, _ := r.work(t, row)
		l = append(l, v)
	}
	return l
}

func (r *run) long() [][]api.Value {
	if len(r.rows) == 1 {
		return r.rows[0]
	}
	var l [][]api.Value
	for _, a := range r.rows[0] {
		for _, b := range r.rows[1] {
			if row := slices.Concat(a, b); r.holds(r.typed.On, row) {
				l = append(l, row)
			}
		}
	}
	return l
}

// part tells the chosen ones of the long rows, and the others.
func (r *run) part() (chosen, others [][]api.Value) {
	for _, row := range r.long() {
		if r.holds(r.typed.Where, row) {
			chosen = append(chosen, row)
		} else {
			others = append(others, row)
		}
	}
	return chosen, others
}

func (r *run) insert() (api.Result, [][]api.Value, api.Errno) {
	return r.come(r.rows[0], r.items(nil))
}

func (r *run) update() (api.Result, [][]api.Value, api.Errno) {
	chosen, others := r.part()
	var changed [][]api.Value
	for _, row := range chosen {
		items := r.items(row)
		row = slices.Clone(row)
		for i, place := range r.typed.Columns {
			row[place] = items[i]
		}
		changed = append(changed, row)
	}
	return r.come(others, changed...)
}

// come ends a statement by which rows come to those that stay.
func (r *run) come(stay [][]api.Value, rows ...[]api.Value) (api.Result, [][]api.Value, api.Errno) {
	table := r.tables[0]
	if r.least != api.OK {
		return api.Result{}, nil, r.least
	}
	if slices.ContainsFunc(rows, func(row []api.Value) bool { return lacks(table, row) }) {
		return api.Result{}, nil, api.ErrNotNull
	}
	all := slices.Concat(stay, rows)
	if !together(table, all) {
		return api.Result{}, nil, api.ErrUnique
	}
	slices.SortFunc(all, by(table.Key))
	return api.Result{Count: len(rows)}, all, api.OK
}

func (r *run) remove() (api.Result, [][]api.Value, api.Errno) {
	chosen, others := r.part()
	return api.Result{Count: len(chosen)}, others, r.least
}

func (r *run) choose() (api.Result, [][]api.Value, api.Errno) {
	rows := r.told()
	slices.SortStableFunc(rows, r.sorted)
	for _, most := range r.typed.Limit {
		rows = rows[:min(most, len(rows))]
	}
	return api.Result{Rows: rows}, r.rows[0], r.least
}

// told are the rows of a select as they come, ahead of what its sorts and its limit say.
func (r *run) told() [][]api.Value {
	chosen, _ := r.part()
	var l [][]api.Value
	if r.typed.Grouped {
		for _, rows := range r.groups(chosen) {
			l = append(l, r.groupItems(rows))
		}
		return l
	}
	for _, row := range chosen {
		l = append(l, r.items(row))
	}
	return l
}

// sorted orders two rows that are told as the statement's sorts say.
func (r *run) sorted(a, b []api.Value) int {
	for _, s := range r.typed.Sorts {
		order := value.Order(a[s.Item-1], b[s.Item-1])
		if s.Desc {
			order = -order
		}
		if order != 0 {
			return order
		}
	}
	return 0
}
