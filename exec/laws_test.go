package exec_test

import (
	"fmt"
	"reflect"
	"slices"
	"strconv"
	"strings"
	"testing"
	"unsafe"

	"unison/api"
	"unison/check"
	"unison/denote"
	"unison/exec"
	"unison/plan"
	"unison/syntax"
	"unison/value"
)

func yes(v api.Value) bool { return v == api.Value{Kind: api.Bool, Int: 1} }

// lets tells whether an access lets a row through, by chapter 15's words; the terms are worked out of the row ahead of it.
func lets(c api.Catalog, a api.Access, ahead, row, args []api.Value) bool {
	columns := c.Tables[a.Table].Key
	if a.Way == api.WayIndex {
		columns = c.Tables[a.Table].Indexes[a.Index].Columns
	}
	holds := func(place, op int, x api.Term) bool {
		to, _ := denote.Eval(x, ahead, args)
		v, _ := value.Compare(op, row[columns[place]], to)
		return yes(v)
	}
	for i, x := range a.Fixed {
		if !holds(i, api.CmpEq, x) {
			return false
		}
	}
	for _, x := range a.Low {
		if !holds(len(a.Fixed), map[bool]int{false: api.CmpGe, true: api.CmpGt}[a.LowOpen], x) {
			return false
		}
	}
	for _, x := range a.High {
		if !holds(len(a.Fixed), map[bool]int{false: api.CmpLe, true: api.CmpLt}[a.HighOpen], x) {
			return false
		}
	}
	return true
}

// plain goes through a plan by the words of chapters 14 to 16; all errors of its terms are listed.
type plain struct {
	c      api.Catalog
	p      api.Plan
	x      api.Typed
	args   []api.Value
	errors []api.Errno
}

func (p *plain) work(t api.Term, row []api.Value) (api.Value, bool) {
	v, e := denote.Eval(t, row, p.args)
	if e != api.OK {
		p.errors = append(p.errors, e)
	}
	return v, e == api.OK
}

func (p *plain) items(row []api.Value) []api.Value {
	var l []api.Value
	for _, t := range p.x.Items {
		v, _ := p.work(t, row)
		l = append(l, v)
	}
	return l
}

// chosen are, of the long rows that the accesses let through, those for which Where is TRUE, each with the place of its first table's row.
func (p *plain) chosen(s api.State) (l [][]api.Value, places []int) {
	take := func(long []api.Value, place int) {
		for _, t := range p.x.Where {
			if v, _ := p.work(t, long); !yes(v) {
				return
			}
		}
		l, places = append(l, long), append(places, place)
	}
	for i, a := range s.Tables[p.x.Tables[0]] {
		if !lets(p.c, p.p.Access[0], nil, a, p.args) {
			continue
		}
		if len(p.x.Tables) == 1 {
			take(a, i)
			continue
		}
		for _, b := range s.Tables[p.x.Tables[1]] {
			if !lets(p.c, p.p.Access[1], a, b, p.args) {
				continue
			}
			long := slices.Concat(a, b)
			if v, _ := p.work(p.x.On[0], long); yes(v) {
				take(long, i)
			}
		}
	}
	return l, places
}

// before tells whether a row stands ahead of another one by some columns.
func before(a, b []api.Value, columns []int) bool {
	for _, c := range columns {
		if order := value.Order(a[c], b[c]); order != 0 {
			return order < 0
		}
	}
	return false
}

// placed puts a row behind all those that are not to stand behind it.
func placed(rows [][]api.Value, row []api.Value, ahead func(a, b []api.Value) bool) [][]api.Value {
	i := len(rows)
	for i > 0 && ahead(row, rows[i-1]) {
		i--
	}
	return slices.Insert(rows, i, row)
}

func (p *plain) selection(s api.State) [][]api.Value {
	var told, out [][]api.Value
	chosen, _ := p.chosen(s)
	if p.x.Grouped {
		told = p.groups(chosen)
	} else {
		for _, row := range chosen {
			told = append(told, p.items(row))
		}
	}
	for _, row := range told {
		out = placed(out, row, func(a, b []api.Value) bool {
			for _, x := range p.x.Sorts {
				if a[x.Item-1] != b[x.Item-1] {
					return (value.Order(a[x.Item-1], b[x.Item-1]) < 0) != x.Desc
				}
			}
			return false
		})
	}
	if len(p.x.Limit) > 0 && p.x.Limit[0] < len(out) {
		out = out[:p.x.Limit[0]]
	}
	return out
}

func (p *plain) groups(chosen [][]api.Value) [][]api.Value {
	if len(p.x.Groups) == 0 {
		return [][]api.Value{p.group(chosen)}
	}
	var firsts, told [][]api.Value
	same := func(a, b []api.Value) bool { return !before(a, b, p.x.Groups) && !before(b, a, p.x.Groups) }
	for _, row := range chosen {
		if !slices.ContainsFunc(firsts, func(f []api.Value) bool { return same(f, row) }) {
			firsts = placed(firsts, row, func(a, b []api.Value) bool { return before(a, b, p.x.Groups) })
		}
	}
	for _, f := range firsts {
		told = append(told, p.group(slices.DeleteFunc(slices.Clone(chosen), func(row []api.Value) bool { return !same(f, row) })))
	}
	return told
}

func (p *plain) group(rows [][]api.Value) []api.Value {
	var out []api.Value
	for _, t := range p.x.Items {
		var all []api.Value
		least, most, fine := api.Value{}, api.Value{}, true
		for _, row := range rows {
			if t.Op <= api.ExprCount {
				break
			}
			v, ok := p.work(t.Kids[0], row)
			all, fine = append(all, v), fine && ok
			if v.Kind != api.Null && (least.Kind == api.Null || value.Order(v, least) < 0) {
				least = v
			}
			if v.Kind != api.Null && value.Order(v, most) > 0 {
				most = v
			}
		}
		switch t.Op {
		case api.ExprCount:
			out = append(out, api.Value{Kind: api.Int, Int: len(rows)})
		case api.ExprSum:
			v, e := value.Sum(all...)
			if fine && e != api.OK {
				p.errors = append(p.errors, e)
			}
			out = append(out, v)
		case api.ExprMin:
			out = append(out, least)
		case api.ExprMax:
			out = append(out, most)
		default:
			out = append(out, rows[0][t.Num])
		}
	}
	return out
}

// change is how many rows come or go, and the state then.
func (p *plain) change(s api.State) (int, api.State, api.Errno) {
	place := p.x.Tables[0]
	def := p.c.Tables[place]
	rows, count := slices.Clone(s.Tables[place]), 1
	var come [][]api.Value
	if p.x.Kind == api.StmtInsert {
		come = [][]api.Value{p.items(nil)}
	} else {
		chosen, places := p.chosen(s)
		count = len(chosen)
		for n, old := range slices.Backward(chosen) {
			rows = slices.Delete(rows, places[n], places[n]+1)
			row := slices.Clone(old)
			for i, v := range p.items(old) {
				row[p.x.Columns[i]] = v
			}
			if p.x.Kind == api.StmtUpdate {
				come = append(come, row)
			}
		}
	}
	if len(p.errors) > 0 {
		return 0, s, slices.Min(p.errors)
	}
	for _, row := range come {
		if slices.ContainsFunc(def.Columns, func(c api.Column) bool { return c.NotNull && row[slices.Index(def.Columns, c)].Kind == api.Null }) {
			return 0, s, api.ErrNotNull
		}
		rows = placed(rows, row, func(a, b []api.Value) bool { return before(a, b, def.Key) })
	}
	left := api.State{Tables: slices.Clone(s.Tables)}
	left.Tables[place] = rows
	if !denote.Right(p.c, left) {
		return 0, s, api.ErrUnique
	}
	return count, left, api.OK
}

// plainRun is what Run tells and leaves, of a right state.
func plainRun(c api.Catalog, params []api.Param, s api.State, q api.Plan, args []api.Value) (api.Result, api.State, api.Errno) {
	if !plan.Right(c, params, q) {
		return api.Result{}, s, api.ErrPlan
	}
	for i, v := range args {
		if i >= len(params) || !value.Right(v) || v.Kind != api.Null && v.Kind != params[i].Type {
			return api.Result{}, s, api.ErrArgs
		}
	}
	if len(args) < len(params) {
		return api.Result{}, s, api.ErrArgs
	}
	p := plain{c: c, p: q, x: q.Typed, args: args}
	if q.Typed.Kind == api.StmtSelect {
		rows := p.selection(s)
		if len(p.errors) > 0 {
			return api.Result{}, s, slices.Min(p.errors)
		}
		return api.Result{Rows: rows}, s, api.OK
	}
	count, left, e := p.change(s)
	if e != api.OK {
		return api.Result{}, s, e
	}
	return api.Result{Count: count}, left, api.OK
}

// dice are numbers that look thrown, and are always the same.
type dice uint64

func (d *dice) below(n int) int {
	*d = *d*6364136223846793005 + 1442695040888963407
	return int(*d>>33) % n
}

// one in so many times it is true.
func (d *dice) oneIn(n int) bool { return d.below(n) == 0 }

// world throws a catalog, a state, parameters with arguments, statements over them, and accesses of these. How many numbers there are says how many rows a table may have.
type world struct {
	dice
	numbers int
	parts   int
	catalog api.Catalog
	state   api.State
	params  []api.Param
	args    []api.Value
	scope   []api.Column
}

func newWorld(seed int) *world {
	w := &world{dice: dice(seed), numbers: 6}
	if w.below(2); w.oneIn(50) {
		w.numbers = 60
	}
	w.parts = 1 + w.below(w.below(16)+1)
	for i := range 1 + w.below(3) {
		w.catalog.Tables = append(w.catalog.Tables, w.table([]string{"t", "u", "k"}[i]))
	}
	w.state = denote.Empty(w.catalog)
	for i, t := range w.catalog.Tables {
		w.state.Tables[i] = w.rows(t, w.below(w.numbers+2))
	}
	for i := range w.below(4) {
		w.params = append(w.params, api.Param{Name: []string{"p", "q", "r"}[i], Type: 1 + w.below(3)})
		w.args = append(w.args, w.value(w.params[i].Type, 8))
	}
	return w
}

func (w *world) table(name string) api.Table {
	t := api.Table{Name: name}
	n := 1 + w.below(5)
	for i := range n {
		t.Columns = append(t.Columns, api.Column{Name: string(rune('a' + i)), Type: []int{1, 1, 2, 3}[w.below(4)], NotNull: w.oneIn(4)})
	}
	t.Key = w.places(n, 1+w.below(3))
	for _, place := range t.Key {
		t.Columns[place].NotNull = true
	}
	t.Part = t.Key[w.below(len(t.Key))]
	t.Indexes = w.indexes(n, w.below(5))
	return t
}

func (w *world) indexes(columns, n int) []api.Index {
	var l []api.Index
	for i := range n {
		l = append(l, api.Index{Name: "i" + strconv.Itoa(i), Columns: w.places(columns, 1+w.below(3)), Unique: w.oneIn(5)})
	}
	return l
}

// places are at most so many of n, in any order.
func (w *world) places(n, most int) []int {
	var l []int
	for range most {
		if p := w.below(n); !slices.Contains(l, p) {
			l = append(l, p)
		}
	}
	return l
}

// value is one of a type; one in so many is NULL.
func (w *world) value(kind, nulls int) api.Value {
	if nulls > 0 && w.oneIn(nulls) {
		return api.Value{}
	}
	switch kind {
	case api.Int:
		if w.oneIn(10) {
			return api.Value{Kind: kind, Int: []int{1 << 62, -1 << 62, 1<<62 - 1, 255, 256}[w.below(5)]}
		}
		return api.Value{Kind: kind, Int: w.below(w.numbers) - 1}
	case api.Bool:
		return api.Value{Kind: kind, Int: w.below(2)}
	}
	return api.Value{Kind: kind, Text: []string{"", "a", "b", "ab", "\x00", "a\x00", "\xff"}[w.below(7)]}
}

// rows are as many as come out right of some that are thrown.
func (w *world) rows(t api.Table, n int) [][]api.Value {
	c := api.Catalog{Tables: []api.Table{t}}
	var rows [][]api.Value
	for range n {
		var row []api.Value
		for _, c := range t.Columns {
			row = append(row, w.value(c.Type, map[bool]int{false: 3}[c.NotNull]))
		}
		more := placed(slices.Clone(rows), row, func(a, b []api.Value) bool { return before(a, b, t.Key) })
		if denote.Right(c, api.State{Tables: [][][]api.Value{more}}) {
			rows = more
		}
	}
	return rows
}

func (w *world) leaf(kind int) api.Term {
	var l []api.Term
	for i, c := range w.scope {
		if c.Type == kind {
			l = append(l, column(i, kind))
		}
	}
	if len(l) > 0 && !w.oneIn(3) {
		return l[w.below(len(l))]
	}
	if i := slices.IndexFunc(w.params, func(p api.Param) bool { return p.Type == kind }); i >= 0 && w.oneIn(2) {
		return api.Term{Op: api.ExprParam, Num: i, Type: kind}
	}
	v := w.value(kind, 12)
	v.Int = max(v.Int, -v.Int)
	return api.Term{Op: api.ExprValue, Type: v.Kind, Value: v}
}

// term is one of a type; one in so many of its numbers is worked out of others.
func (w *world) term(depth, kind, sums int) api.Term {
	if depth <= 1 || kind == api.Text || kind == api.Int && !w.oneIn(sums) || w.oneIn(8) {
		return w.leaf(kind)
	}
	x := api.Term{Type: kind}
	kids := func(op, num, n, of int) {
		x.Op, x.Num = op, num
		for range n {
			x.Kids = append(x.Kids, w.term(depth-1, of, sums))
		}
	}
	switch {
	case kind == api.Int && w.oneIn(4):
		kids(api.ExprNeg, 0, 1, api.Int)
	case kind == api.Int:
		kids(api.ExprArith, 1+w.below(5), 2, api.Int)
	case depth > 2 && !w.oneIn(3):
		kids(api.ExprAnd, 0, 2+w.below(3), api.Bool)
	case w.oneIn(8):
		kids(api.ExprOr, 0, 2+w.below(3), api.Bool)
	case w.oneIn(8):
		kids(api.ExprNot, 0, 1, api.Bool)
	case w.oneIn(8):
		kids(api.ExprNull, w.below(2), 1, 1+w.below(3))
	case w.oneIn(3) || len(w.scope) == 0:
		kids(api.ExprCompare, 1+w.below(6), 2, 1+w.below(3))
	default:
		return w.binding()
	}
	return x
}

// test is a binding, or some other truth, or a row of AND of these, and of such rows.
func (w *world) test(depth int) api.Term {
	switch {
	case w.oneIn(8):
		return w.term(1+w.below(4), api.Bool, 4)
	case depth == 1 || !w.oneIn(3):
		return w.binding()
	}
	x := api.Term{Op: api.ExprAnd, Type: api.Bool}
	for range 2 + w.below(2) {
		x.Kids = append(x.Kids, w.test(depth-1))
	}
	return x
}

// binding is a comparison of a column, on whatever side, and most often another table's column, a parameter or a value.
func (w *world) binding() api.Term {
	place := w.below(len(w.scope))
	kind := w.scope[place].Type
	kids := []api.Term{column(place, kind), w.leaf(kind)}
	for kids[1].Op == api.ExprColumn && !w.oneIn(4) {
		kids[1] = w.leaf(kind)
	}
	if w.oneIn(2) {
		slices.Reverse(kids)
	}
	return api.Term{Op: api.ExprCompare, Num: []int{1, 1, 1, 2, 3, 4, 5, 6}[w.below(8)], Type: api.Bool, Kids: kids}
}

// typed is a right statement.
func (w *world) typed() api.Typed {
	all := w.catalog.Tables
	first := w.below(len(all))
	x := api.Typed{Kind: 1 + w.below(4), Tables: []int{first}}
	if w.oneIn(3) {
		x.Kind = api.StmtSelect
	}
	w.scope = all[first].Columns
	switch x.Kind {
	case api.StmtInsert:
		w.scope = nil
		for _, c := range all[first].Columns {
			x.Items = append(x.Items, w.term(3, c.Type, 3))
		}
		return x
	case api.StmtUpdate:
		x.Columns = w.places(len(w.scope), 1+w.below(3))
		for _, place := range x.Columns {
			x.Items = append(x.Items, w.term(3, w.scope[place].Type, 2))
		}
	case api.StmtSelect:
		if !w.oneIn(3) && len(all) > 1 {
			x.Tables = append(x.Tables, (first+1+w.below(len(all)-1))%len(all))
			w.scope = slices.Concat(w.scope, all[x.Tables[1]].Columns)
			x.On = []api.Term{w.test(3)}
		}
		w.selection(&x)
	}
	if !w.oneIn(4) {
		x.Where = []api.Term{w.test(2)}
	}
	return x
}

func (w *world) selection(x *api.Typed) {
	x.Grouped = w.oneIn(2)
	if x.Grouped {
		x.Groups = w.places(len(w.scope), w.below(4))
	}
	for range 1 + w.below(4) {
		switch {
		case !x.Grouped:
			x.Items = append(x.Items, w.term(3, 1+w.below(3), 2))
		case len(x.Groups) > 0 && w.oneIn(2):
			place := x.Groups[w.below(len(x.Groups))]
			x.Items = append(x.Items, column(place, w.scope[place].Type))
		case w.oneIn(4):
			x.Items = append(x.Items, api.Term{Op: api.ExprCount, Type: api.Int})
		case w.oneIn(3):
			x.Items = append(x.Items, api.Term{Op: api.ExprSum, Type: api.Int, Kids: []api.Term{w.term(3, api.Int, 2)}})
		default:
			kid := w.term(2, 1+w.below(3), 4)
			x.Items = append(x.Items, api.Term{Op: api.ExprMin + w.below(2), Type: kid.Type, Kids: []api.Term{kid}})
		}
	}
	for _, t := range x.Items {
		x.Types = append(x.Types, t.Type)
	}
	for range w.below(3) {
		if s := (api.Sort{Item: 1 + w.below(len(x.Items)), Desc: w.oneIn(2)}); !slices.ContainsFunc(x.Sorts, func(o api.Sort) bool { return o.Item == s.Item }) {
			x.Sorts = append(x.Sorts, s)
		}
	}
	if w.oneIn(3) {
		x.Limit = []int{w.below(6)}
	}
}

// access is one of the n-th table of a statement that is right, but for a slip now and then.
func (w *world) access(t api.Typed, n int) api.Access {
	table := w.catalog.Tables[t.Tables[n]]
	a := api.Access{Table: t.Tables[n], Way: 1 + w.below(3)}
	columns := table.Key
	w.scope = nil
	if n == 1 {
		w.scope = w.catalog.Tables[t.Tables[0]].Columns
	}
	switch {
	case a.Way == api.WayAll && !w.oneIn(20):
		return a
	case a.Way == api.WayIndex && len(table.Indexes) > 0:
		a.Index = w.below(len(table.Indexes))
		columns = table.Indexes[a.Index].Columns
	case !w.oneIn(20):
		a.Way = api.WayKey
	}
	fixed := w.below(len(columns) + 1)
	for _, place := range columns[:fixed] {
		a.Fixed = append(a.Fixed, w.leaf(table.Columns[place].Type))
	}
	if fixed < len(columns) || w.oneIn(20) {
		kind := table.Columns[columns[min(fixed, len(columns)-1)]].Type
		if w.oneIn(2) {
			a.Low, a.LowOpen = []api.Term{w.leaf(kind)}, w.oneIn(2)
		}
		if w.oneIn(2) || fixed == 0 && a.Low == nil {
			a.High, a.HighOpen = []api.Term{w.leaf(kind)}, w.oneIn(2)
		}
	}
	return a
}

// thrown is a plan whose accesses are not those that Make would take.
func (w *world) thrown() api.Plan {
	p := api.Plan{Typed: w.typed()}
	for n := range p.Typed.Tables {
		if p.Typed.Kind != api.StmtInsert {
			p.Access = append(p.Access, w.access(p.Typed, n))
		}
	}
	return p
}

// made is the plan that Make makes of a statement.
func (w *world) made(t *testing.T) api.Plan {
	t.Helper()
	x := w.typed()
	p, e := plan.Make(w.catalog, w.params, x)
	if e != api.OK {
		t.Fatalf("with %+v, %+v: %+v: %v", w.catalog, w.params, x, e)
	}
	return p
}

func told(r api.Result, s api.State, e api.Errno) string {
	return fmt.Sprintf("%s, %d, %v, %s", shown(r.Rows), r.Count, e, shownState(s))
}

// sound holds what a plan tells and leaves, behind which it is taken back, against the chapter's words.
func sound(t *testing.T, w *world, p api.Plan) (api.Result, api.Errno) {
	t.Helper()
	store := stored(t, w.catalog, w.parts, w.state)
	k := store.Begin()
	got, e := exec.Run(k, w.params, p, w.args...)
	want, left, f := plainRun(w.catalog, w.params, w.state, p, w.args)
	if a, b := told(got, store.State(), e), told(want, left, f); a != b {
		t.Fatalf("with %+v, %d partitions, %+v, %v, %s:\nRun(%+v)\n= %s\nwant %s", w.catalog, w.parts, w.params, shown([][]api.Value{w.args}), shownState(w.state), p, a, b)
	}
	if k.Undo(); shownState(store.State()) != shownState(w.state) {
		t.Fatalf("undone: %s; was %s", shownState(store.State()), shownState(w.state))
	}
	return got, e
}

func mustMeet(t *testing.T, met map[api.Errno]int, least map[api.Errno]int) {
	t.Helper()
	for code, n := range least {
		if met[code] < n {
			t.Errorf("%v: %d times alone", code, met[code])
		}
	}
}

func TestP161ThrownPlans(t *testing.T) {
	met, rows, count := map[api.Errno]int{}, 0, 0
	for i := range 15000 {
		w := newWorld(i)
		r, e := sound(t, w, w.thrown())
		met[e]++
		rows, count = rows+len(r.Rows), count+r.Count
	}
	mustMeet(t, met, map[api.Errno]int{api.OK: 8000, api.ErrPlan: 200, api.ErrOverflow: 40, api.ErrZero: 100, api.ErrNotNull: 200, api.ErrUnique: 200})
	if rows < 3000 || count < 1000 {
		t.Error(rows, count)
	}
}

// reindexed is the catalog with other indexes that are not Unique.
func (w *world) reindexed() api.Catalog {
	c := api.Catalog{Tables: slices.Clone(w.catalog.Tables)}
	for i, t := range c.Tables {
		var l []api.Index
		for _, x := range t.Indexes {
			if x.Unique {
				l = append(l, x)
			}
		}
		for _, x := range w.indexes(len(t.Columns), w.below(5-len(l))) {
			x.Name, x.Unique = "n"+x.Name, false
			l = slices.Insert(l, w.below(len(l)+1), x)
		}
		c.Tables[i].Indexes = l
	}
	return c
}

func TestP162Thrown(t *testing.T) {
	met, ways, rows, count := map[api.Errno]int{}, map[int]int{}, 0, 0
	for i := range 10000 {
		w := newWorld(i)
		p := w.made(t)
		x := p.Typed
		want, left, f := denote.Run(w.catalog, w.params, w.state, x, w.args...)
		for n := range 2 {
			store := stored(t, w.catalog, w.parts, w.state)
			got, e := exec.Run(store.Begin(), w.params, p, w.args...)
			if a, b := told(got, store.State(), e), told(want, left, f); a != b {
				t.Fatalf("%d: with %+v, %d partitions, %+v, %v, %s:\nRun(%+v)\n= %s\nwant %s", n, w.catalog, w.parts, w.params, shown([][]api.Value{w.args}), shownState(w.state), p, a, b)
			}
			for i, a := range p.Access {
				ways[a.Way+10*i]++
			}
			w.catalog, w.parts = w.reindexed(), 1+w.below(16)
			p, e = plan.Make(w.catalog, w.params, x)
			if e != api.OK {
				t.Fatal(e)
			}
		}
		met[f]++
		rows, count = rows+len(want.Rows), count+want.Count
	}
	mustMeet(t, met, map[api.Errno]int{api.OK: 5000, api.ErrOverflow: 40, api.ErrZero: 100, api.ErrNotNull: 150, api.ErrUnique: 150})
	for _, way := range []int{1, 2, 3, 11, 12, 13} {
		if ways[way] < 500 {
			t.Errorf("way %d: %d times alone", way, ways[way])
		}
	}
	if rows < 3000 || count < 1000 {
		t.Error(rows, count)
	}
}

// Many statements over one work, each on what those ahead of it left, then all taken back.
func TestP162P163LongRuns(t *testing.T) {
	changed := 0
	for i := range 60 {
		w := newWorld(i)
		w.numbers = 60
		for place, def := range w.catalog.Tables {
			w.state.Tables[place] = w.rows(def, 80)
		}
		first := w.state
		store := stored(t, w.catalog, w.parts, first)
		k := store.Begin()
		for range 40 {
			p := w.made(t)
			for p.Typed.Kind == api.StmtDelete && len(p.Typed.Where) == 0 {
				p = w.made(t)
			}
			want, left, f := denote.Run(w.catalog, w.params, w.state, p.Typed, w.args...)
			got, e := exec.Run(k, w.params, p, w.args...)
			if a, b := told(got, store.State(), e), told(want, left, f); a != b {
				t.Fatalf("with %+v: Run(%+v) = %s; want %s", w.catalog, p, a, b)
			}
			if got.Count > 0 {
				changed++
			}
			w.state = left
		}
		if k.Undo(); shownState(store.State()) != shownState(first) {
			t.Fatalf("undone: %s; was %s", shownState(store.State()), shownState(first))
		}
	}
	if changed < 200 {
		t.Error(changed)
	}
}

// All accesses of few terms, of a state of few rows, in statements of each kind.
func TestP161AllSmallAccesses(t *testing.T) {
	c := api.Catalog{Tables: []api.Table{
		{Name: "t", Columns: columns("a! I", "b I", "c I"), Key: []int{0}, Indexes: []api.Index{{Name: "i", Columns: []int{1, 2}}, {Name: "j", Columns: []int{2, 0}, Unique: true}}},
		{Name: "u", Columns: columns("d! I", "e! I"), Key: []int{1, 0}},
	}}
	w := &world{catalog: c, parts: 3, params: []api.Param{{Name: "p", Type: api.Int}}, args: list("2")}
	w.state = api.State{Tables: [][][]api.Value{rowsOf("-1 NULL 1; 0 2 2; 1 1 NULL; 2 2 1; 3 1 2; 5 NULL NULL; 6 2 NULL; 7 1 1"), rowsOf("1 -1; 2 -1; 1 2; 2 2; 0 3")}}
	leaves := []api.Term{of("1")[0], of("2")[0], of("NULL")[0], {Op: api.ExprParam, Type: api.Int}, column(0, api.Int), column(1, api.Int)}
	lists := [][]api.Term{nil}
	for _, x := range leaves {
		lists = append(lists, terms(x))
	}
	fixed := slices.Clone(lists)
	for _, x := range leaves {
		for _, y := range leaves {
			fixed = append(fixed, terms(x, y))
		}
	}
	right := 0
	for _, source := range []string{"SELECT a, 6 / (a - 3) FROM t WHERE 6 / (a - 5) < 9", "UPDATE t SET a = a + 1, c = 2", "DELETE FROM t WHERE b < a", "SELECT d, SUM(a) FROM t JOIN u ON a < d * 3 GROUP BY d", "SELECT d, a, c FROM u JOIN t ON TRUE ORDER BY 3 DESC"} {
		s, _ := syntax.Parse(source)
		x, f := check.Check(c, w.params, s)
		p, e := plan.Make(c, w.params, x)
		if f != (api.Fault{}) || e != api.OK {
			t.Fatal(source, f, e)
		}
		n := len(p.Access) - 1
		ask := func(a api.Access) {
			a.Table = x.Tables[n]
			p.Access[n] = a
			if plan.Right(c, w.params, p) {
				right++
				sound(t, w, p)
			}
		}
		for form := range 4 {
			a := api.Access{Way: 1 + min(form, 2), Index: max(form-2, 0)}
			for _, a.Fixed = range fixed {
				for _, a.Low = range lists {
					for _, a.High = range lists {
						for open := range 4 {
							a.LowOpen, a.HighOpen = open%2 == 1, open/2 == 1
							ask(a)
						}
					}
				}
			}
		}
	}
	if right < 5000 {
		t.Error(right)
	}
}

// subsets are all lists of some rows in their order.
func subsets(rows ...string) []string {
	l := []string{""}
	for _, row := range rows {
		for _, s := range slices.Clone(l) {
			l = append(l, s+";"+row)
		}
	}
	return l
}

func TestP162AllSmallStates(t *testing.T) {
	sources := []string{
		"SELECT a FROM t WHERE b = 1", "SELECT a, b FROM t WHERE b <= 1 LIMIT 1", "SELECT b, COUNT(*), SUM(a) FROM t WHERE b > 0 GROUP BY b", "SELECT a FROM t WHERE a > 1 AND b = 2", "SELECT 1 / (a - 2) FROM t WHERE b < 2",
		"SELECT a, c FROM t JOIN u ON b = c", "SELECT a, c FROM u JOIN t ON b = c AND a > c", "SELECT c, d FROM t JOIN u ON c >= a WHERE b = 1",
		"INSERT INTO t VALUES (2, 1)", "INSERT INTO t VALUES (4, 2)", "INSERT INTO u VALUES (2, NULL)", "UPDATE t SET a = 4 - a WHERE b >= 1", "UPDATE t SET a = b WHERE b = 1", "UPDATE t SET b = 3 - b WHERE b > 0", "UPDATE t SET b = 1 WHERE a > 1", "UPDATE t SET b = a WHERE b = 2", "DELETE FROM t WHERE b = 1", "DELETE FROM t WHERE a < 3 AND b < 2", "DELETE FROM u WHERE c = 2",
	}
	rows := []string{"1 NULL", "1 1", "1 2", "2 NULL", "2 1", "2 2", "3 NULL", "3 1", "3 2"}
	asked := 0
	for form := range 3 {
		c := api.Catalog{Tables: []api.Table{
			{Name: "t", Columns: columns("a! I", "b I"), Key: []int{0}, Indexes: [][]api.Index{nil, {{Name: "i", Columns: []int{1}}}, {{Name: "i", Columns: []int{1}, Unique: true}}}[form]},
			{Name: "u", Columns: columns("c! I", "d T"), Key: []int{0}},
		}}
		var plans []api.Plan
		for _, source := range sources {
			s, _ := syntax.Parse(source)
			x, f := check.Check(c, nil, s)
			p, e := plan.Make(c, nil, x)
			if f != (api.Fault{}) || e != api.OK {
				t.Fatal(source, f, e)
			}
			plans = append(plans, p)
		}
		for _, a := range subsets(rows...) {
			for _, b := range subsets("1 'x'", "2 NULL") {
				s := api.State{Tables: [][][]api.Value{rowsOf(a), rowsOf(b)}}
				if !denote.Right(c, s) {
					continue
				}
				store := stored(t, c, 1+len(a)%5, s)
				for i, p := range plans {
					want, left, f := denote.Run(c, nil, s, p.Typed)
					k := store.Begin()
					got, e := exec.Run(k, nil, p)
					if a, b := told(got, store.State(), e), told(want, left, f); a != b {
						t.Fatalf("%s of %s: %s; want %s", sources[i], shownState(s), a, b)
					}
					k.Undo()
					asked++
				}
			}
		}
	}
	if asked < 7000 {
		t.Error(asked)
	}
}

// part is a field, or an element of a list, of something, with the name of the field that has it.
type part struct {
	reflect.Value
	name string
}

// partsOf are all parts of what a pointer points to.
func partsOf(x any) []part {
	var l []part
	var walk func(v reflect.Value, name string)
	walk = func(v reflect.Value, name string) {
		l = append(l, part{v, name})
		switch v.Kind() {
		case reflect.Struct:
			for i := range v.NumField() {
				walk(v.Field(i), v.Type().Field(i).Name)
			}
		case reflect.Slice:
			for i := range v.Len() {
				walk(v.Index(i), name)
			}
		}
	}
	walk(reflect.ValueOf(x).Elem(), "")
	return l
}

// others are values that a part might have instead.
func others(p part) []reflect.Value {
	var l []reflect.Value
	switch p.Kind() {
	case reflect.Int:
		for _, n := range []int{0, 1, 2, 3, 4, 5, 7, 11, 14, -1, 16, 1 << 62, 1<<62 + 1} {
			l = append(l, reflect.ValueOf(n).Convert(p.Type()))
		}
	case reflect.String:
		for _, s := range []string{"", "a", "b", "t", "A", strings.Repeat("x", 64), strings.Repeat("x", 65)} {
			l = append(l, reflect.ValueOf(s))
		}
	case reflect.Bool:
		l = append(l, reflect.ValueOf(!p.Bool()))
	case reflect.Slice:
		l = append(l, reflect.Zero(p.Type()), reflect.MakeSlice(p.Type(), 1, 1))
		if p.Len() > 0 {
			l = append(l, reflect.AppendSlice(p.Slice3(0, p.Len(), p.Len()), p.Value), p.Slice(1, p.Len()), p.Slice(0, p.Len()-1))
		}
		if p.Len() > 1 {
			turned := reflect.AppendSlice(reflect.MakeSlice(p.Type(), 0, 0), p.Slice(1, p.Len()))
			l = append(l, reflect.Append(turned, p.Index(0)))
		}
	}
	return l
}

// asked is what Run is handed, the state of the work's store ahead of it, what it answers, and the state behind it.
type asked struct {
	Params []api.Param
	Plan   api.Plan
	Args   []api.Value
	Result api.Result
	Code   api.Errno
	Left   api.State
}

func thrownAsked(t *testing.T, i int) (*world, *asked) {
	w := newWorld(i)
	x := &asked{Params: w.params, Plan: w.thrown(), Args: w.args}
	if i%2 == 0 {
		x.Plan = w.made(t)
	}
	return w, x
}

func (x *asked) ask(t *testing.T, w *world) {
	t.Helper()
	store := stored(t, w.catalog, w.parts, w.state)
	x.Result, x.Code = exec.Run(store.Begin(), x.Params, x.Plan, x.Args...)
	x.Left = store.State()
}

func (x *asked) told() string { return told(x.Result, x.Left, x.Code) }

// Each part of what is handed in is changed, one at a time.
func TestP161Changed(t *testing.T) {
	met := map[api.Errno]int{}
	for i := range 40 {
		w, x := thrownAsked(t, i)
		store := stored(t, w.catalog, w.parts, w.state)
		for _, p := range partsOf(x) {
			was := reflect.New(p.Type()).Elem()
			was.Set(p.Value)
			for _, o := range others(p) {
				p.Set(o)
				k := store.Begin()
				got, e := exec.Run(k, x.Params, x.Plan, x.Args...)
				want, left, f := plainRun(w.catalog, x.Params, w.state, x.Plan, x.Args)
				if a, b := told(got, store.State(), e), told(want, left, f); a != b {
					t.Fatalf("with %+v, %+v: Run(%+v, %v) = %s; want %s", w.catalog, x.Params, x.Plan, x.Args, a, b)
				}
				k.Undo()
				met[e]++
				p.Set(was)
			}
		}
	}
	mustMeet(t, met, map[api.Errno]int{api.OK: 1000, api.ErrPlan: 5000, api.ErrArgs: 300})
}

func FuzzP161P162(f *testing.F) {
	for i, s := range []string{"SELECT a, COUNT(*) FROM t GROUP BY a ORDER BY 2 DESC", "UPDATE t SET a = a WHERE a > 0", "SELECT * FROM t JOIN u ON t.a = u.a", "DELETE FROM t WHERE a = :p", "INSERT INTO t VALUES (:p)"} {
		f.Add(s, i)
	}
	f.Fuzz(func(t *testing.T, source string, seed int) {
		w := newWorld(seed)
		sound(t, w, w.thrown())
		sound(t, w, w.made(t))
		s, _ := syntax.Parse(source)
		for _, w := range []*world{w, {catalog: defined(), parts: 3, params: given(), args: handed(), state: chapter()}} {
			x, fault := check.Check(w.catalog, w.params, s)
			if fault != (api.Fault{}) {
				continue
			}
			p, _ := plan.Make(w.catalog, w.params, x)
			got, e := sound(t, w, p)
			want, left, wrong := denote.Run(w.catalog, w.params, w.state, x, w.args...)
			if a, b := told(got, left, e), told(want, left, wrong); a != b {
				t.Fatalf("%s: %s; want %s", source, a, b)
			}
		}
	})
}

// Beside an error nothing is told.
func TestR3BesideAnError(t *testing.T) {
	errors := 0
	for i := range 4000 {
		w, x := thrownAsked(t, i)
		if i%5 == 0 {
			x.Args = append(x.Args, api.Value{})
		}
		if x.ask(t, w); x.Code != api.OK {
			errors++
			if x.Result.Rows != nil || x.Result.Count != 0 || shownState(x.Left) != shownState(w.state) {
				t.Fatal(x.told())
			}
		}
	}
	if errors < 1000 {
		t.Error(errors)
	}
}

// Empty lists are as none.
func TestR4EmptyLists(t *testing.T) {
	for i := range 1000 {
		w, x := thrownAsked(t, i)
		x.ask(t, w)
		want := x.told()
		for _, p := range partsOf(x) {
			if p.Kind() == reflect.Slice && p.Len() == 0 {
				p.Set(reflect.MakeSlice(p.Type(), 0, 3))
			}
		}
		if x.ask(t, w); x.told() != want {
			t.Fatalf("%s; with empty lists %s", want, x.told())
		}
	}
}

// room is the memory of a list, its spare one too, or of a text.
type room struct {
	from, to uintptr
	name     string
}

func roomsOf(x any) []room {
	var l []room
	for _, p := range partsOf(x) {
		switch p.Kind() {
		case reflect.Slice:
			from := p.Pointer()
			l = append(l, room{from, from + uintptr(p.Cap())*p.Type().Elem().Size(), p.name})
		case reflect.String:
			s := p.String()
			from := uintptr(unsafe.Pointer(unsafe.StringData(s)))
			l = append(l, room{from, from + uintptr(len(s)), p.name})
		}
	}
	return slices.DeleteFunc(l, func(r room) bool { return r.from == r.to })
}

func apart(t *testing.T, a, b []room) {
	t.Helper()
	for i, x := range a {
		for j, y := range b {
			if x.from < y.to && y.from < x.to && !(len(a) == len(b) && &a[0] == &b[0] && i == j) {
				t.Fatalf("%s and %s share memory", x.name, y.name)
			}
		}
	}
}

// lengthen makes each text one of several bytes, so that it has memory of its own.
func lengthen(x any) {
	for _, p := range partsOf(x) {
		if p.name == "Text" && p.String() != "" {
			p.SetString(p.String() + "-" + p.String())
		}
	}
}

func TestR5AnswersAreNew(t *testing.T) {
	rows, texts := 0, 0
	for i := range 2000 {
		w, x := thrownAsked(t, i)
		lengthen(x)
		lengthen(&w.state)
		x.ask(t, w)
		first := *x
		x.ask(t, w)
		given := slices.Concat(roomsOf(&w.catalog), roomsOf(&w.state), roomsOf(&x.Params), roomsOf(&x.Plan), roomsOf(&x.Args), roomsOf(&x.Left))
		told := roomsOf(&x.Result)
		rows += len(x.Result.Rows)
		texts += len(slices.DeleteFunc(roomsOf(&x.Result), func(r room) bool { return r.name != "Text" }))
		apart(t, told, given)
		apart(t, told, told)
		apart(t, told, roomsOf(&first))
	}
	if rows < 500 || texts < 200 {
		t.Error(rows, texts)
	}
}

// roomy gives all lists spare room.
func roomy(x any) {
	for _, p := range partsOf(x) {
		if p.Kind() == reflect.Slice {
			wide := reflect.MakeSlice(p.Type(), p.Len(), p.Len()+3)
			reflect.Copy(wide, p.Value)
			p.Set(wide)
		}
	}
}

// whole is all of something, with the spare room of its lists.
func whole(x any) string {
	out := fmt.Sprintf("%+v", reflect.ValueOf(x).Elem().Interface())
	for _, p := range partsOf(x) {
		if p.Kind() == reflect.Slice {
			out += fmt.Sprintf("|%+v", p.Slice3(p.Len(), p.Cap(), p.Cap()).Slice(0, p.Cap()-p.Len()).Interface())
		}
	}
	return out
}

// What is handed in stays as it is, its spare room too; and what is done to it later, and to what was answered, is of no weight.
func TestR5ArgumentsStay(t *testing.T) {
	for i := range 1000 {
		w, x := thrownAsked(t, i)
		roomy(x)
		store := stored(t, w.catalog, w.parts, w.state)
		k := store.Begin()
		before := whole(x)
		got, e := exec.Run(k, x.Params, x.Plan, x.Args...)
		if after := whole(x); after != before {
			t.Fatalf("%s; then %s", before, after)
		}
		want := told(got, store.State(), e)
		answer := got
		answer.Rows = nil
		for _, row := range got.Rows {
			answer.Rows = append(answer.Rows, slices.Clone(row))
			clear(row[:cap(row)])
		}
		clear(x.Args[:cap(x.Args)])
		clear(x.Plan.Typed.Items)
		if after := told(answer, store.State(), e); after != want {
			t.Fatalf("%s; then %s", want, after)
		}
		if k.Undo(); shownState(store.State()) != shownState(w.state) {
			t.Fatal(shownState(store.State()), shownState(w.state))
		}
	}
}

// What is answered hangs on the arguments and the rows alone: not on works that are over, nor on how the store came to its rows.
func TestR6TheSameAgain(t *testing.T) {
	for i := range 1000 {
		w, x := thrownAsked(t, i)
		x.ask(t, w)
		want := x.told()
		v, y := thrownAsked(t, i+1)
		y.ask(t, v)
		store := stored(t, w.catalog, w.parts, w.state)
		for range 5 {
			k := store.Begin()
			exec.Run(k, w.params, w.made(t), w.args...)
			k.Undo()
		}
		k := store.Begin()
		exec.Run(k, y.Params, y.Plan, y.Args...)
		k.Undo()
		got, e := exec.Run(store.Begin(), x.Params, x.Plan, x.Args...)
		if after := told(got, store.State(), e); after != want {
			t.Fatalf("%s; then %s", want, after)
		}
	}
}
