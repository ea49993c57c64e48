package exec

import (
	"iter"
	"slices"

	"unison/api"
	"unison/denote"
	"unison/key"
	"unison/table"
)

// run is a right plan that is gone through. What is wrong with a term stops nothing: the least error is kept.
type run struct {
	work     *table.Work
	catalog  api.Catalog
	typed    api.Typed
	accesses []api.Access
	args     []api.Value
	least    api.Errno
}

// rows come out one behind the other, each worked out when it is asked for.
type rows iter.Seq[[]api.Value]

// meet keeps an error, if it is less than those that were met.
func (r *run) meet(e api.Errno) {
	if e != api.OK && (r.least == api.OK || e < r.least) {
		r.least = e
	}
}

// value is what a term comes to in a row, in memory of its own.
func (r *run) value(t api.Term, row []api.Value) (api.Value, api.Errno) {
	v, e := denote.Eval(t, row, r.args)
	r.meet(e)
	return v, e
}

func (r *run) values(l []api.Term, row []api.Value) []api.Value {
	var out []api.Value
	for _, t := range l {
		v, _ := r.value(t, row)
		out = append(out, v)
	}
	return out
}

func (r *run) items(row []api.Value) []api.Value { return r.values(r.typed.Items, row) }

// chosen are the rows that the statement is about. Those of each table come behind those of the one ahead of it, the first ones behind a row without columns, which is all that an insert has.
func (r *run) chosen() rows {
	long := rows(func(yield func([]api.Value) bool) { yield(nil) })
	for _, a := range r.accesses {
		long = r.behind(long, a)
	}
	return r.holding(r.typed.Where, r.holding(r.typed.On, long))
}

// behind are rows, each with each one behind it that an access lets through.
func (r *run) behind(below rows, a api.Access) rows {
	return func(yield func([]api.Value) bool) {
		for ahead := range below {
			for _, row := range r.reach(a, ahead) {
				if !yield(slices.Concat(ahead, row)) {
					return
				}
			}
		}
	}
}

// holding are the rows of which a test, if there is one, is TRUE.
func (r *run) holding(test []api.Term, below rows) rows {
	return func(yield func([]api.Value) bool) {
		for row := range below {
			if r.hold(test, row) && !yield(row) {
				return
			}
		}
	}
}

func (r *run) hold(test []api.Term, row []api.Value) bool {
	for _, v := range r.values(test, row) {
		if v != (api.Value{Kind: api.Bool, Int: 1}) {
			return false
		}
	}
	return true
}

// reach are the rows that an access lets through, by rising keys, whatever way it goes.
func (r *run) reach(a api.Access, ahead []api.Value) [][]api.Value {
	fixed, low, high := r.values(a.Fixed, ahead), r.values(a.Low, ahead), r.values(a.High, ahead)
	if slices.Contains(slices.Concat(fixed, low, high), api.Value{}) {
		return nil
	}
	lo, hi := span(a, fixed, low, high)
	if a.Way != api.WayIndex {
		return r.work.Scan(a.Table, byKey, lo, hi)
	}
	l := r.work.Scan(a.Table, a.Index, lo, hi)
	columns := r.catalog.Tables[a.Table].Key
	slices.SortFunc(l, func(x, y []api.Value) int { return key.Order(pick(x, columns), pick(y, columns)) })
	return l
}

// byKey is the index by which rows stand by their keys.
const byKey = -1

// span are the sort keys from which on, and below which, rows are that an access lets through, if its terms are these values, none of them NULL.
func span(a api.Access, fixed, low, high []api.Value) (lo, hi string) {
	lo = encode(fixed)
	hi = next(lo)
	switch {
	case len(low) > 0:
		lo = encode(fixed, low)
		if a.LowOpen {
			lo = next(lo)
		}
	case len(high) > 0:
		// NULL stands ahead of all values, but is below none.
		lo = next(encode(fixed, []api.Value{{}}))
	}
	if len(high) > 0 {
		hi = encode(fixed, high)
		if !a.HighOpen {
			hi = next(hi)
		}
	}
	return lo, hi
}

// encode is the key of right values, no more than a key may have: those that columns of one index are held against are such.
func encode(l ...[]api.Value) string {
	s, _ := key.Encode(slices.Concat(l...)...)
	return s
}

// next is the end of the keys that begin with one; of the empty one, with which all do, there is none, and it is empty.
func next(s string) string {
	s, _ = key.Next(s)
	return s
}

// pick is the values of a row in some columns.
func pick(row []api.Value, columns []int) []api.Value {
	var l []api.Value
	for _, c := range columns {
		l = append(l, row[c])
	}
	return l
}
