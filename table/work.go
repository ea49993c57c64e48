package table

import (
	"slices"

	"unison/api"
)

// Work changes rows, and can take that back. How many loads the store had seen when it was begun tells whether one has ended it since.
type Work struct {
	store *Store
	loads int
	ended bool
	done  []stroke
}

// stroke is a change that was made: the rows that it took away, and the keys of those that it brought.
type stroke struct {
	table   int
	took    [][]api.Value
	brought [][]api.Value
}

// Catalog is the store's.
func (w *Work) Catalog() api.Catalog { return w.store.Catalog() }

// Get is the row that has a key.
func (w *Work) Get(table int, key ...api.Value) ([]api.Value, bool) {
	t, ok := w.table(table)
	if !ok {
		return nil, false
	}
	return t.find(key...)
}

// Scan is the rows between two sort keys by an index (-1: by the key).
func (w *Work) Scan(table, index int, lo, hi string) [][]api.Value {
	t, ok := w.table(table)
	if !ok || index < byKey || index >= len(t.def.Indexes) {
		return nil
	}
	return t.scan(index, lo, hi)
}

// Change takes rows away, and brings others, at one stroke.
func (w *Work) Change(table int, out, in [][]api.Value) api.Errno {
	t, ok := w.table(table)
	if !ok {
		return api.ErrArg
	}
	goes, ok := t.leaving(out)
	if !ok {
		return api.ErrArg
	}
	if e := t.mayCome(in, goes); e != api.OK {
		return e
	}
	s := stroke{table: table}
	for _, r := range out {
		s.took = append(s.took, t.drop(t.keyOf(r)))
	}
	for _, r := range in {
		s.brought = append(s.brought, t.put(r))
	}
	w.done = append(w.done, s)
	return api.OK
}

// Undo takes back what the work changed; it is over then.
func (w *Work) Undo() {
	if w.Over() {
		return
	}
	for _, s := range slices.Backward(w.done) {
		t := w.store.tables[s.table]
		for _, k := range s.brought {
			t.drop(k)
		}
		for _, r := range s.took {
			t.put(r)
		}
	}
	w.Done()
}

// Done ends it, and leaves all as it is.
func (w *Work) Done() { w.ended, w.done = true, nil }

// Over tells whether the work is over.
func (w *Work) Over() bool { return w.ended || w.loads != w.store.loads }

// table is the store's at a place; false: there is none, or none for a work that is over.
func (w *Work) table(place int) (*rows, bool) {
	if w.Over() {
		return nil, false
	}
	return w.store.table(place)
}
