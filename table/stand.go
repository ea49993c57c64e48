package table

import (
	"slices"

	"unison/api"
	"unison/key"
	"unison/value"
)

// set is some texts.
type set map[string]struct{}

func (s set) has(x string) bool {
	_, ok := s[x]
	return ok
}

// add tells whether a text was not there; it is from now on.
func (s set) add(x string) bool {
	isNew := !s.has(x)
	s[x] = struct{}{}
	return isNew
}

// leaving is the keys of rows that are to go; false: one does not fit, or is not there, or goes twice.
func (t *rows) leaving(out [][]api.Value) (set, bool) {
	goes := set{}
	for _, r := range out {
		if t.misfits(r) || !goes.add(t.sortKey(byKey, r)) {
			return nil, false
		}
		if _, there := t.find(t.keyOf(r)...); !there {
			return nil, false
		}
	}
	return goes, true
}

// mayCome tells what is wrong with rows that are to stand beside those whose keys do not go. All of them are gone through for one error ahead of the next: which one is told must not hang on their order.
func (t *rows) mayCome(in [][]api.Value, goes set) api.Errno {
	switch {
	case slices.ContainsFunc(in, t.misfits):
		return api.ErrArg
	case slices.ContainsFunc(in, t.lacks):
		return api.ErrNotNull
	case t.clash(in, goes):
		return api.ErrUnique
	}
	return api.OK
}

// misfits tells whether a row does not fit the table.
func (t *rows) misfits(r []api.Value) bool {
	if len(r) != len(t.def.Columns) {
		return true
	}
	for i, v := range r {
		if !value.Right(v) || !isNull(v) && v.Kind != t.def.Columns[i].Type {
			return true
		}
	}
	return false
}

// lacks tells whether a row that fits is NULL where it must not be.
func (t *rows) lacks(r []api.Value) bool {
	for i, v := range r {
		if isNull(v) && t.def.Columns[i].NotNull {
			return true
		}
	}
	return false
}

// clash tells whether rows that are to come have a key, or meet in an index, among themselves or with one that stays.
func (t *rows) clash(in [][]api.Value, goes set) bool {
	for n := byKey; n < len(t.def.Indexes); n++ {
		if t.unique(n) && t.clashBy(n, in, goes) {
			return true
		}
	}
	return false
}

// unique tells whether no two rows may have the same values in an index's columns.
func (t *rows) unique(index int) bool { return index == byKey || t.def.Indexes[index].Unique }

// clashBy is clash of one index, of no two of whose rows the values may be the same.
func (t *rows) clashBy(index int, in [][]api.Value, goes set) bool {
	met := set{}
	for _, r := range in {
		l := pick(r, t.columns(index))
		if slices.ContainsFunc(l, isNull) {
			continue
		}
		if !met.add(encode(l...)) || t.held(index, l, goes) {
			return true
		}
	}
	return false
}

// held tells whether a row that stays has these values in an index's columns. There may be many, for what is undone stands again whoever it meets.
func (t *rows) held(index int, l []api.Value, goes set) bool {
	lo := encode(l...)
	hi, _ := key.Next(lo)
	for p := range t.asked(t.columns(index), l) {
		for _, name := range p.names(index, lo, hi) {
			if !goes.has(name) {
				return true
			}
		}
	}
	return false
}

func isNull(v api.Value) bool { return v.Kind == api.Null }
