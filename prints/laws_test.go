package prints_test

import (
	"fmt"
	"math"
	"reflect"
	"slices"
	"strconv"
	"strings"
	"testing"
	"unsafe"

	"unison/api"
	"unison/denote"
	"unison/key"
	"unison/prints"
	"unison/proc"
	"unison/table"
	"unison/value"
)

// dice are numbers that look thrown, and are always the same.
type dice uint64

func (d *dice) below(n int) int {
	*d = *d*6364136223846793005 + 1442695040888963407
	return int(*d>>33) % n
}

// one in so many times it is true.
func (d *dice) oneIn(n int) bool { return d.below(n) == 0 }

func pick[T any](d *dice, l ...T) T { return l[d.below(len(l))] }

// world throws a catalog with procedures that come to rows by keys, a state, and calls.
type world struct {
	dice
	catalog api.Catalog
	state   api.State
	params  []api.Param
}

func newWorld(seed int) *world {
	w := &world{dice: dice(seed)}
	w.below(2)
	w.params = params("v I", "x I", "y T", "z B")
	for i := range 1 + w.below(2) {
		w.catalog.Tables = append(w.catalog.Tables, w.table([]string{"t", "u"}[i]))
	}
	w.state = denote.Empty(w.catalog)
	for i := range w.catalog.Tables {
		w.fill(i, w.below(12))
	}
	for i := range 4 {
		p := api.Proc{Name: []string{"p", "q", "r", "s"}[i], Params: w.params, Rows: pick(&w.dice, 3, 99, 99), Bytes: 999}
		for range 1 + w.below(3) {
			p.Body = append(p.Body, w.source())
		}
		w.catalog.Procs = append(w.catalog.Procs, p)
	}
	return w
}

func (w *world) table(name string) api.Table {
	t := api.Table{Name: name}
	n := 1 + w.below(4)
	for i := range n {
		t.Columns = append(t.Columns, api.Column{Name: name + string(rune('a'+i)), Type: pick(&w.dice, 1, 1, 1, 2, 3), NotNull: w.oneIn(5)})
	}
	t.Key = w.places(n, 1+w.below(3))
	for _, place := range t.Key {
		t.Columns[place].NotNull = true
	}
	t.Part = pick(&w.dice, t.Key...)
	for i := range w.below(4) {
		t.Indexes = append(t.Indexes, api.Index{Name: "i" + strconv.Itoa(i), Columns: w.places(n, 1+w.below(2)), Unique: w.oneIn(2)})
	}
	return t
}

// places are at most so many of n, in any order.
func (w *world) places(n, most int) []int {
	var l []int
	for range most {
		if p := w.below(n); !slices.Contains(l, p) {
			l = append(l, p)
		}
	}
	return l
}

// value is one of a type; one in so many is NULL.
func (w *world) value(kind, nulls int) api.Value {
	if nulls > 0 && w.oneIn(nulls) {
		return api.Value{}
	}
	switch kind {
	case api.Int:
		return api.Value{Kind: kind, Int: pick(&w.dice, 0, 1, 2, 3, 4, 5, 255, -1, 1<<62)}
	case api.Bool:
		return api.Value{Kind: kind, Int: w.below(2)}
	}
	return api.Value{Kind: kind, Text: pick(&w.dice, "", "a", "a\x00", "b", "it's", "\x00", "\xff", strings.Repeat("\xff", 64))}
}

func (w *world) row(t api.Table) []api.Value {
	var l []api.Value
	for _, c := range t.Columns {
		l = append(l, w.value(c.Type, map[bool]int{false: 3}[c.NotNull]))
	}
	return l
}

// fill throws rows into a table of the state, and keeps those with which it is right.
func (w *world) fill(place, n int) {
	for range n {
		if s, ok := w.with(w.state, place, w.row(w.catalog.Tables[place])); ok {
			w.state = s
		}
	}
}

// with is a state with a row more; false: it is not right.
func (w *world) with(s api.State, place int, row []api.Value) (api.State, bool) {
	t := w.catalog.Tables[place]
	rows := append(slices.Clone(s.Tables[place]), row)
	slices.SortStableFunc(rows, func(a, b []api.Value) int { return key.Order(keyOf(t, a), keyOf(t, b)) })
	out := api.State{Tables: slices.Clone(s.Tables)}
	out.Tables[place] = rows
	return out, denote.Right(w.catalog, out)
}

// keyOf are the values of a row's key.
func keyOf(t api.Table, row []api.Value) []api.Value { return valuesOf(row, t.Key) }

func valuesOf(row []api.Value, columns []int) []api.Value {
	var l []api.Value
	for _, c := range columns {
		l = append(l, row[c])
	}
	return l
}

// textOf is a row's key as bytes.
func textOf(t api.Table, row []api.Value) string {
	s, e := key.Encode(keyOf(t, row)...)
	if e != api.OK {
		panic(e)
	}
	return s
}

// leaf is a source of a parameter or a literal of a type.
func (w *world) leaf(kind int) string {
	if w.oneIn(2) {
		return ":" + []string{"", "v", "y", "z"}[map[int]int{api.Int: 1, api.Text: 2, api.Bool: 3}[kind]]
	}
	if kind == api.Int && w.oneIn(2) {
		return ":x"
	}
	v := w.value(kind, 20)
	v.Int = max(v.Int, 0)
	s, _ := value.Print(v)
	return s
}

// where bounds the first columns of the key, as often as not.
func (w *world) where(t api.Table) string {
	var l []string
	for _, place := range t.Key {
		c := t.Columns[place]
		if !w.oneIn(3) {
			l = append(l, c.Name+" = "+w.leaf(c.Type))
			continue
		}
		if w.oneIn(2) {
			l = append(l, c.Name+pick(&w.dice, " > ", " >= ")+w.leaf(c.Type))
		}
		if w.oneIn(2) {
			l = append(l, c.Name+pick(&w.dice, " < ", " <= ")+w.leaf(c.Type))
		}
		break
	}
	if c := pick(&w.dice, t.Columns...); w.oneIn(5) {
		l = append(l, pick(&w.dice, c.Name+" = "+w.leaf(c.Type), c.Name+" IS NOT NULL", c.Name+" <> "+w.leaf(c.Type), "1 + 1 = 2"))
	}
	if len(l) == 0 {
		return ""
	}
	return " WHERE " + strings.Join(l, " AND ")
}

// term is a source of an expression of a type over a row of some columns.
func (w *world) term(columns []api.Column, kind int) string {
	l := []string{w.leaf(kind), w.leaf(kind)}
	for _, c := range columns {
		if c.Type == kind {
			l = append(l, c.Name)
		}
	}
	s := pick(&w.dice, l...)
	if w.oneIn(8) && kind == api.Int {
		return s + pick(&w.dice, " + 1", " - 1", " / 1", " % 2", " / "+w.leaf(kind))
	}
	return s
}

func (w *world) source() string {
	t := pick(&w.dice, w.catalog.Tables...)
	var l []string
	switch w.below(7) {
	case 0, 1:
		for _, c := range t.Columns {
			l = append(l, w.term(nil, c.Type))
		}
		return "INSERT INTO " + t.Name + " VALUES (" + strings.Join(l, ", ") + ")"
	case 2:
		return "DELETE FROM " + t.Name + w.where(t)
	case 3, 4:
		for _, place := range w.places(len(t.Columns), 2) {
			if !slices.Contains(t.Key, place) || len(l) == 0 && w.oneIn(3) {
				l = append(l, t.Columns[place].Name+" = "+w.term(t.Columns, t.Columns[place].Type))
			}
		}
		if len(l) > 0 {
			return "UPDATE " + t.Name + " SET " + strings.Join(l, ", ") + w.where(t)
		}
	}
	from := " FROM " + t.Name
	if u := w.catalog.Tables[0]; u.Name != t.Name && w.oneIn(2) {
		on := "TRUE"
		if c, d := pick(&w.dice, t.Columns...), u.Columns[u.Key[0]]; c.Type == d.Type && w.oneIn(2) {
			on = c.Name + " = " + d.Name
		} else if w.oneIn(2) {
			on = d.Name + pick(&w.dice, " = ", " < ") + w.leaf(d.Type)
		}
		from += " JOIN " + u.Name + " ON " + on
	}
	return "SELECT " + pick(&w.dice, "*", "COUNT(*)", pick(&w.dice, t.Columns...).Name) + from + w.where(t)
}

// call is one that is admitted.
func (w *world) call() api.Call {
	c := api.Call{Client: 1 + w.below(64), Seq: 1 + w.below(99), Proc: pick(&w.dice, w.catalog.Procs...).Name}
	for _, x := range w.params {
		c.Args = append(c.Args, w.value(x.Type, 12))
	}
	return c
}

func footprint(t *testing.T, b *proc.Book, c api.Call) []api.Lock {
	t.Helper()
	l, e := prints.Of(b, c)
	if e != api.OK {
		t.Fatal(c, e)
	}
	return l
}

// plainValues are the values of terms; false: one of them is neither a value nor a parameter.
func plainValues(l []api.Term, args []api.Value) (out []api.Value, ok bool) {
	for _, x := range l {
		if x.Op != api.ExprValue && x.Op != api.ExprParam {
			return nil, false
		}
		v, _ := denote.Eval(x, nil, args)
		out = append(out, v)
	}
	return out, true
}

// plainRange tells of an access, by the chapter's words, its lock, or none.
func plainRange(a api.Access, args []api.Value, write bool) []api.Lock {
	f, ok1 := plainValues(a.Fixed, args)
	low, ok2 := plainValues(a.Low, args)
	high, ok3 := plainValues(a.High, args)
	if a.Way != api.WayKey || !ok1 || !ok2 || !ok3 {
		return []api.Lock{{Table: a.Table, Lo: "\x01", Write: write}}
	}
	x := api.Lock{Table: a.Table, Write: write}
	x.Lo, _ = key.Encode(f...)
	x.Hi, _ = key.Next(x.Lo)
	for _, v := range low {
		x.Lo, _ = key.Encode(append(slices.Clone(f), v)...)
		if a.LowOpen {
			x.Lo, _ = key.Next(x.Lo)
		}
	}
	for _, v := range high {
		x.Hi, _ = key.Encode(append(slices.Clone(f), v)...)
		if !a.HighOpen {
			x.Hi, _ = key.Next(x.Hi)
		}
	}
	for _, v := range slices.Concat(f, low, high) {
		if v.Kind == api.Null {
			return nil
		}
	}
	if x.Hi != "" && x.Hi <= x.Lo {
		return nil
	}
	return []api.Lock{x}
}

// plainLocks are those of a statement's plan by the chapter's words.
func plainLocks(c api.Catalog, p api.Plan, args []api.Value) (l []api.Lock) {
	place := p.Typed.Tables[0]
	t := c.Tables[place]
	marks := func(column func(int) bool) {
		for i, x := range t.Indexes {
			if x.Unique && slices.ContainsFunc(x.Columns, column) {
				l = append(l, mark(place, i))
			}
		}
	}
	all, set := func(int) bool { return true }, func(column int) bool { return slices.Contains(p.Typed.Columns, column) }
	switch p.Typed.Kind {
	case api.StmtSelect:
		for _, a := range p.Access {
			l = append(l, plainRange(a, args, false)...)
		}
	case api.StmtDelete:
		l = plainRange(p.Access[0], args, true)
		marks(all)
	case api.StmtUpdate:
		l = plainRange(p.Access[0], args, true)
		if slices.ContainsFunc(t.Key, set) {
			l = []api.Lock{wAll(place)}
		}
		marks(set)
	case api.StmtInsert:
		var items []api.Term
		for _, column := range t.Key {
			items = append(items, p.Typed.Items[column])
		}
		values, ok := plainValues(items, args)
		if !ok {
			l = []api.Lock{wAll(place)}
		} else if slices.Contains(values, api.Value{}) {
			return nil
		} else {
			lo, _ := key.Encode(values...)
			hi, _ := key.Next(lo)
			l = []api.Lock{w(place, lo, hi)}
		}
		marks(all)
	}
	return l
}

// Of is held against the chapter's words.
func TestO1Thrown(t *testing.T) {
	met, ends := map[string]int{}, 0
	for i := range 3000 {
		w := newWorld(i)
		b := book(t, w.catalog)
		for range 6 {
			c := w.call()
			plans, _ := b.Plans(c.Proc)
			var want []api.Lock
			for _, p := range plans {
				for _, x := range plainLocks(w.catalog, p, c.Args) {
					if !slices.Contains(want, x) {
						want = append(want, x)
					}
				}
			}
			l := footprint(t, b, c)
			if !slices.Equal(l, want) {
				t.Fatalf("%+v, %+v: %s; want %s", w.catalog, c, shown(l), shown(want))
			}
			for _, x := range l {
				met[fmt.Sprintf("%t %t %t", x.Write, x.Lo == "\x01", strings.HasPrefix(x.Lo, "\x00"))]++
				if x.Hi == "" && x.Lo != "\x01" {
					ends++
				}
			}
			if len(l) == 0 {
				met["none"]++
			}
		}
	}
	for _, kind := range []string{"none", "false true false", "true true false", "false false false", "true false false", "true false true"} {
		if met[kind] < 500 {
			t.Errorf("%s: %d", kind, met[kind])
		}
	}
	if ends < 500 {
		t.Error(ends)
	}
}

// lets tells whether a key's values, held against the chapter's bounds one by one, come through an access whose terms are known.
func lets(a api.Access, values, args []api.Value) bool {
	holds := func(comparison int, l []api.Term, column int) bool {
		for _, x := range l {
			to, _ := plainValues([]api.Term{x}, args)
			if v, e := value.Compare(comparison, values[column], to[0]); e != api.OK || v != (api.Value{Kind: api.Bool, Int: 1}) {
				return false
			}
		}
		return true
	}
	for i := range a.Fixed {
		if !holds(api.CmpEq, a.Fixed[i:i+1], i) {
			return false
		}
	}
	low, high := api.CmpGe, api.CmpLe
	if a.LowOpen {
		low = api.CmpGt
	}
	if a.HighOpen {
		high = api.CmpLt
	}
	return holds(low, a.Low, len(a.Fixed)) && holds(high, a.High, len(a.Fixed))
}

// The lock of a select's range covers the keys that its access lets through, and no others.
func TestO1O2ByMeaning(t *testing.T) {
	within, without := 0, 0
	for i := range 3000 {
		w := newWorld(i)
		for n := range w.catalog.Procs {
			w.catalog.Procs[n].Body = []string{"SELECT 1 FROM t" + w.where(w.catalog.Tables[0])}
		}
		b := book(t, w.catalog)
		c := w.call()
		l := footprint(t, b, c)
		p, _ := b.Plans(c.Proc)
		a := p[0].Access[0]
		for range 20 {
			row := w.row(w.catalog.Tables[0])
			want := a.Way != api.WayKey || lets(a, keyOf(w.catalog.Tables[0], row), c.Args)
			if prints.Covers(l, 0, textOf(w.catalog.Tables[0], row), false) != want {
				t.Fatalf("%+v, %+v: %s: %v: %t", p, c, shown(l), row, !want)
			}
			if a.Way == api.WayKey && want {
				within++
			} else if !want {
				without++
			}
		}
	}
	if within < 3000 || without < 3000 {
		t.Error(within, without)
	}
}

func shownReply(r api.Reply) string { return fmt.Sprintf("%+v", r) }

func shownState(s api.State) string { return fmt.Sprintf("%v", s.Tables) }

// rowsBy are the rows of a table by their keys.
func rowsBy(t api.Table, rows [][]api.Value) map[string]string {
	out := map[string]string{}
	for _, row := range rows {
		out[textOf(t, row)] = fmt.Sprint(row)
	}
	return out
}

// changed are the keys of a table under which two states have other rows.
func changed(t api.Table, a, b [][]api.Value) []string {
	x, y := rowsBy(t, a), rowsBy(t, b)
	var l []string
	for k := range x {
		if x[k] != y[k] {
			l = append(l, k)
		}
	}
	for k := range y {
		if _, ok := x[k]; !ok {
			l = append(l, k)
		}
	}
	return l
}

// Under each key at which a call changes something its footprint covers that, to be written.
func TestO3ChangesAreCovered(t *testing.T) {
	found := 0
	for i := range 3000 {
		w := newWorld(i)
		b := book(t, w.catalog)
		s := w.state
		for range 6 {
			c := w.call()
			l := footprint(t, b, c)
			_, left := b.Mean(s, c)
			for place, x := range w.catalog.Tables {
				for _, k := range changed(x, s.Tables[place], left.Tables[place]) {
					found++
					if !prints.Covers(l, place, k, true) {
						t.Fatalf("%+v, %+v: %s: %d, %x", w.catalog, c, shown(l), place, k)
					}
				}
			}
			s = left
		}
	}
	if found < 5000 {
		t.Error(found)
	}
}

// elsewhere throws a state that is as another one where a footprint covers it, and in the columns of the indexes whose marks it has.
func (w *world) elsewhere(s api.State, l []api.Lock) api.State {
	place := w.below(len(s.Tables))
	t := w.catalog.Tables[place]
	rows, row := s.Tables[place], w.row(t)
	var marked []int
	for i, x := range t.Indexes {
		if prints.Covers(l, place, mark(place, i).Lo, true) {
			marked = append(marked, x.Columns...)
		}
	}
	next := api.State{Tables: slices.Clone(s.Tables)}
	switch at := w.below(len(rows) + 1); {
	case at < len(rows) && prints.Covers(l, place, textOf(t, rows[at]), false):
		return s
	case at < len(rows) && w.oneIn(3) && len(marked) == 0:
		next.Tables[place] = slices.Delete(slices.Clone(rows), at, at+1)
		return next
	case at < len(rows):
		for i, v := range rows[at] {
			if slices.Contains(marked, i) || w.oneIn(2) {
				row[i] = v
			}
		}
		next.Tables[place] = slices.Delete(slices.Clone(rows), at, at+1)
	case len(marked) > 0:
		return s
	}
	if prints.Covers(l, place, textOf(t, row), false) {
		return s
	}
	if next, ok := w.with(next, place, row); ok {
		return next
	}
	return s
}

// What a call answers, and changes, hangs on nothing that its footprint doesn't cover.
func TestO3HangsOnTheCovered(t *testing.T) {
	other, changes, replies := 0, 0, map[api.Errno]int{}
	for i := range 4000 {
		w := newWorld(i)
		b := book(t, w.catalog)
		for range 4 {
			c := w.call()
			l := footprint(t, b, c)
			s := w.state
			for range 8 {
				s = w.elsewhere(s, l)
			}
			if shownState(s) == shownState(w.state) {
				continue
			}
			other++
			r, left := b.Mean(w.state, c)
			q, stays := b.Mean(s, c)
			about := fmt.Sprintf("%+v, %+v: %s: %s and %s", w.catalog, c, shown(l), shownState(w.state), shownState(s))
			if shownReply(r) != shownReply(q) {
				t.Fatalf("%s: %s and %s", about, shownReply(r), shownReply(q))
			}
			replies[r.Code]++
			for place, x := range w.catalog.Tables {
				was := rowsBy(x, w.state.Tables[place])
				one, two := changed(x, w.state.Tables[place], left.Tables[place]), changed(x, s.Tables[place], stays.Tables[place])
				slices.Sort(one)
				slices.Sort(two)
				a, b := rowsBy(x, left.Tables[place]), rowsBy(x, stays.Tables[place])
				for _, k := range one {
					changes++
					if was[k] != rowsBy(x, s.Tables[place])[k] || a[k] != b[k] {
						t.Fatalf("%s: %x: %s and %s", about, k, a[k], b[k])
					}
				}
				if !slices.Equal(one, two) {
					t.Fatalf("%s: %x and %x", about, one, two)
				}
			}
		}
	}
	if other < 5000 || changes < 1500 || replies[api.OK] < 2000 || replies[api.ErrUnique] < 100 {
		t.Error(other, changes, replies)
	}
}

// meet tells by chapter 19's words whether some locks meet others.
func meet(a, b []api.Lock) bool {
	return slices.ContainsFunc(a, func(x api.Lock) bool {
		return slices.ContainsFunc(b, func(y api.Lock) bool {
			lo := max(x.Lo, y.Lo)
			return x.Table == y.Table && (x.Write || y.Write) && (x.Hi == "" || lo < x.Hi) && (y.Hi == "" || lo < y.Hi)
		})
	})
}

// Two calls whose footprints don't meet answer, and leave, the same, whichever comes first, and by turns.
func TestO3Apart(t *testing.T) {
	apart, both, replies := 0, 0, map[api.Errno]int{}
	for i := range 4000 {
		w := newWorld(i)
		b := book(t, w.catalog)
		for range 5 {
			x, y := w.call(), w.call()
			if meet(footprint(t, b, x), footprint(t, b, y)) {
				continue
			}
			apart++
			r1, left := b.Mean(w.state, x)
			r2, s := b.Mean(left, y)
			q2, other := b.Mean(w.state, y)
			q1, z := b.Mean(other, x)
			about := fmt.Sprintf("%+v, %s: %+v and %+v", w.catalog, shownState(w.state), x, y)
			if shownReply(r1) != shownReply(q1) || shownReply(r2) != shownReply(q2) || shownState(s) != shownState(z) {
				t.Fatalf("%s: %s, %s, %s; turned round %s, %s, %s", about, shownReply(r1), shownReply(r2), shownState(s), shownReply(q1), shownReply(q2), shownState(z))
			}
			if shownState(left) != shownState(w.state) && shownState(other) != shownState(w.state) {
				both++
			}
			replies[r1.Code]++
			replies[r2.Code]++
			store, e := table.New(w.catalog, 1+w.below(16))
			if e != api.OK || store.Load(w.state) != api.OK {
				t.Fatal(e)
			}
			runs := []*proc.Run{b.Begin(store, x), b.Begin(store, y)}
			for range 20 {
				runs[w.below(2)].Step()
			}
			for n, want := range []api.Reply{r1, r2} {
				for !runs[n].Step() {
				}
				if got, _ := runs[n].Reply(); shownReply(got) != shownReply(want) {
					t.Fatalf("%s: by turns %s; want %s", about, shownReply(got), shownReply(want))
				}
			}
			if shownState(store.State()) != shownState(s) {
				t.Fatalf("%s: by turns %s; want %s", about, shownState(store.State()), shownState(s))
			}
		}
	}
	if apart < 3000 || both < 300 || replies[api.ErrUnique] < 200 || replies[api.OK] < 3000 {
		t.Error(apart, both, replies)
	}
}

// Whatever call is handed in, there is an answer: Admit's error, or locks that have texts.
func TestR1Anything(t *testing.T) {
	met := map[api.Errno]int{}
	for i := range 3000 {
		w := newWorld(i)
		b := book(t, w.catalog)
		c := w.call()
		switch w.below(6) {
		case 0:
			c.Client = pick(&w.dice, 0, -1, 65, math.MaxInt, math.MinInt)
		case 1:
			c.Seq = pick(&w.dice, 0, -1, 1<<62, 1<<62+1, math.MaxInt, math.MinInt)
		case 2:
			c.Proc = pick(&w.dice, "", "x", "t", "P", "\x00", strings.Repeat("p", 999))
		case 3:
			c.Args = c.Args[:w.below(4)]
		default:
			for n := range c.Args {
				if w.oneIn(4) {
					c.Args[n] = pick(&w.dice, api.Value{Int: 1}, api.Value{Text: "x"}, api.Value{Kind: -1}, api.Value{Kind: 4}, api.Value{Kind: api.Int, Int: math.MinInt}, api.Value{Kind: api.Bool, Int: 2}, api.Value{Kind: api.Text, Text: strings.Repeat("x", 65)}, api.Value{Kind: api.Int, Int: -1 << 62}, api.Value{Kind: api.Text})
				}
			}
		}
		l, e := prints.Of(b, c)
		met[e]++
		if e != b.Admit(c) || e != api.OK && l != nil {
			t.Fatalf("%+v: %s, %v; want %v", c, shown(l), e, b.Admit(c))
		}
		for n, x := range l {
			if x.Table < 0 || x.Table >= len(w.catalog.Tables) || x.Hi != "" && x.Hi <= x.Lo || slices.Contains(l[:n], x) {
				t.Fatalf("%+v: %s", c, shown(l))
			}
		}
	}
	for _, e := range []api.Errno{api.OK, api.ErrArg, api.ErrProc, api.ErrArgs} {
		if met[e] < 200 {
			t.Error(e, met[e])
		}
	}
}

func TestR4EmptyLists(t *testing.T) {
	for _, body := range []string{"SELECT * FROM t WHERE a = 3", "INSERT INTO t VALUES (NULL, 1)"} {
		b := book(t, api.Catalog{Tables: tables(), Procs: []api.Proc{{Name: "p", Body: []string{body}}}})
		for _, args := range [][]api.Value{nil, {}, make([]api.Value, 0, 9)} {
			c := call("")
			c.Args = args
			l, e := prints.Of(b, c)
			if want := body[0] == 'S'; e != api.OK || want && !slices.Equal(l, []api.Lock{r1(0, "3")}) || !want && len(l) != 0 {
				t.Errorf("%s: %s, %v", body, shown(l), e)
			}
		}
	}
}

// What is handed in stays as it is, its spare room too.
func TestR5ArgumentsStay(t *testing.T) {
	room := make([]api.Value, 9)
	for i, v := range list("3 7 'm' TRUE") {
		room[i] = v
	}
	for i := 4; i < 9; i++ {
		room[i] = api.Value{Kind: api.Int, Int: i}
	}
	before := fmt.Sprint(room)
	c := call("")
	c.Args = room[:4]
	b := of(t, "SELECT * FROM u WHERE d = :s AND c > :p AND c < :q", "INSERT INTO t VALUES (:p, :q)", "DELETE FROM u WHERE d = :s AND c = :p AND e = :r")
	if _, e := prints.Of(b, c); e != api.OK || fmt.Sprint(room) != before || len(c.Args) != 4 {
		t.Errorf("%v, %v; was %s", e, room, before)
	}
	locks := make([]api.Lock, 3, 9)
	copy(locks[:9], []api.Lock{r(0, "a", "b"), w(1, "a", ""), r1(1, "3"), rAll(5), rAll(6)})
	was := shown(locks[:9])
	prints.Covers(locks, 0, "a", false)
	prints.Covers(locks, 9, "a", true)
	if shown(locks[:9]) != was {
		t.Error(shown(locks[:9]), was)
	}
}

// What is done to what was answered, or handed in, is of no weight later.
func TestR5AnswersAreNew(t *testing.T) {
	for i := range 300 {
		w := newWorld(i)
		b := book(t, w.catalog)
		c := w.call()
		l := footprint(t, b, c)
		want := slices.Clone(l)
		again := footprint(t, b, c)
		for n := range c.Args {
			c.Args[n] = api.Value{}
		}
		if !slices.Equal(l, want) {
			t.Fatalf("%s; then %s", shown(want), shown(l))
		}
		for n := range l[:cap(l)] {
			l[:cap(l)][n] = api.Lock{Table: 9}
		}
		if !slices.Equal(again, want) {
			t.Fatalf("%s; then %s", shown(want), shown(again))
		}
	}
}

// No text of an answer lies in the memory of one that was handed in.
func TestR5TextsAreNew(t *testing.T) {
	b := of(t, "SELECT * FROM u WHERE d > :s AND d <= 'abcdef'", "INSERT INTO u VALUES (1, :s, TRUE, 1, :s)")
	c := call("3 7 'long_enough' TRUE")
	l := footprint(t, b, c)
	from := uintptr(unsafe.Pointer(unsafe.StringData(c.Args[2].Text)))
	for _, x := range l {
		for _, s := range []string{x.Lo, x.Hi} {
			at := uintptr(unsafe.Pointer(unsafe.StringData(s)))
			if s != "" && at < from+uintptr(len(c.Args[2].Text)) && from < at+uintptr(len(s)) {
				t.Errorf("%q", s)
			}
		}
	}
}

// What is answered hangs on the catalog and the call alone: not on what was asked ahead of that, nor on runs of the book, nor on which book it is.
func TestR6TheSameAgain(t *testing.T) {
	for i := range 500 {
		w := newWorld(i)
		b := book(t, w.catalog)
		c := w.call()
		want := footprint(t, b, c)
		store, _ := table.New(w.catalog, 1+w.below(16))
		store.Load(w.state)
		for range 4 {
			x := w.call()
			footprint(t, b, x)
			b.Begin(store, x).Step()
			b.Call(store, w.call())
			prints.Of(b, api.Call{})
		}
		if l := footprint(t, b, c); !reflect.DeepEqual(l, want) {
			t.Fatalf("%s; then %s", shown(want), shown(l))
		}
		if l := footprint(t, book(t, w.catalog), c); !reflect.DeepEqual(l, want) {
			t.Fatalf("%s; of another book %s", shown(want), shown(l))
		}
	}
}
