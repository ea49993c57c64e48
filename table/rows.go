package table

import (
	"iter"
	"math"
	"slices"
	"strings"

	"unison/api"
	"unison/btree"
	"unison/frame"
	"unison/key"
	"unison/row"
)

// byKey is the index by which a row's sort key is its key.
const byKey = -1

// width is the order of all trees.
const width = 32

// rows are those of one table.
type rows struct {
	def   api.Table
	parts []partition
}

// partition is some of a table's rows, in trees: the first one has each row's bytes under its key; those behind it, one an index, have its key under its sort key.
type partition []*btree.Tree

func newRows(def api.Table, parts int) *rows {
	t := &rows{def: def}
	for range parts {
		t.parts = append(t.parts, newPartition(len(def.Indexes)))
	}
	return t
}

func newPartition(indexes int) partition {
	var p partition
	for range 1 + indexes {
		tree, _ := btree.New(width)
		p = append(p, tree)
	}
	return p
}

// tree is the one by an index.
func (p partition) tree(index int) *btree.Tree { return p[index-byKey] }

// list is the bytes of the rows between two sort keys by an index, each under its sort key.
func (p partition) list(index int, lo, hi string) []api.Pair {
	l := p.tree(index).List(lo, hi, math.MaxInt)
	if index == byKey {
		return l
	}
	for i, x := range l {
		l[i].Val, _ = p.tree(byKey).Get(x.Val)
	}
	return l
}

// names is the keys, as bytes, of the rows between two sort keys by an index.
func (p partition) names(index int, lo, hi string) []string {
	var l []string
	for _, x := range p.tree(index).List(lo, hi, math.MaxInt) {
		if index == byKey {
			l = append(l, x.Key)
		} else {
			l = append(l, x.Val)
		}
	}
	return l
}

// asked tells the partitions in which rows may be that have some values in some columns: one, if Part is among these, else all.
func (t *rows) asked(columns []int, l []api.Value) iter.Seq[partition] {
	return func(yield func(partition) bool) {
		at := slices.Index(columns, t.def.Part)
		if at >= 0 && at < len(l) {
			yield(t.parts[t.home(l[at])])
			return
		}
		for _, p := range t.parts {
			if !yield(p) {
				return
			}
		}
	}
}

// home is the place of the partition of the rows that have a value in the column Part.
func (t *rows) home(v api.Value) int { return int(frame.Sum(encode(v)) % uint32(len(t.parts))) }

// columns are those of an index.
func (t *rows) columns(index int) []int {
	if index == byKey {
		return t.def.Key
	}
	return t.def.Indexes[index].Columns
}

// keyOf is a row's key.
func (t *rows) keyOf(r []api.Value) []api.Value { return pick(r, t.def.Key) }

// sortKey is a row's sort key by an index.
func (t *rows) sortKey(index int, r []api.Value) string {
	name := encode(t.keyOf(r)...)
	if index == byKey {
		return name
	}
	return encode(pick(r, t.columns(index))...) + name
}

// find is the row that has a key, which may be any values.
func (t *rows) find(l ...api.Value) ([]api.Value, bool) {
	name, e := key.Encode(l...)
	if e != api.OK {
		return nil, false
	}
	for p := range t.asked(t.def.Key, l) {
		if s, ok := p.tree(byKey).Get(name); ok {
			return decode(s), true
		}
	}
	return nil, false
}

// scan is the rows between two sort keys by an index, by rising sort keys.
func (t *rows) scan(index int, lo, hi string) [][]api.Value {
	var found []api.Pair
	for p := range t.asked(nil, nil) {
		found = append(found, p.list(index, lo, hi)...)
	}
	slices.SortFunc(found, func(a, b api.Pair) int { return strings.Compare(a.Key, b.Key) })
	var l [][]api.Value
	for _, x := range found {
		l = append(l, decode(x.Val))
	}
	return l
}

// put lets a row stand in the place of what stands under its key, and tells that key in memory of its own.
func (t *rows) put(r []api.Value) []api.Value {
	k := t.keyOf(r)
	t.drop(k)
	name := encode(k...)
	bytes, _ := row.Encode(r...)
	for p := range t.asked(t.def.Key, k) {
		p.tree(byKey).Put(name, bytes)
		for n := range t.def.Indexes {
			p.tree(n).Put(t.sortKey(n, r), name)
		}
	}
	own, _ := key.Decode(name)
	return own
}

// drop takes away the row that has a key, and tells it; none, if there is none.
func (t *rows) drop(k []api.Value) []api.Value {
	r, ok := t.find(k...)
	if !ok {
		return nil
	}
	for p := range t.asked(t.def.Key, k) {
		for n := byKey; n < len(t.def.Indexes); n++ {
			p.tree(n).Delete(t.sortKey(n, r))
		}
	}
	return r
}

// pick is the values of a row that fits, in some columns.
func pick(r []api.Value, columns []int) []api.Value {
	var l []api.Value
	for _, c := range columns {
		l = append(l, r[c])
	}
	return l
}

// encode is the key of right values, no more than a key may have: those of some columns of a row that fits are such.
func encode(l ...api.Value) string {
	s, _ := key.Encode(l...)
	return s
}

// decode is the row of bytes that row.Encode told.
func decode(s string) []api.Value {
	l, _ := row.Decode(s)
	return l
}
