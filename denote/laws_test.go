package denote_test

import (
	"fmt"
	"reflect"
	"slices"
	"strconv"
	"strings"
	"testing"
	"unsafe"

	"unison/api"
	"unison/catalog"
	"unison/check"
	"unison/denote"
	"unison/syntax"
	"unison/value"
)

// alike tells whether two rows have the same values in some columns, none of which is NULL.
func alike(a, b []api.Value, columns []int) bool {
	for _, c := range columns {
		if a[c] != b[c] || a[c].Kind == api.Null {
			return false
		}
	}
	return true
}

// before tells whether a row stands ahead of another one by some columns.
func before(a, b []api.Value, columns []int) bool {
	for _, c := range columns {
		if order := value.Order(a[c], b[c]); order != 0 {
			return order < 0
		}
	}
	return false
}

func plainRow(t api.Table, row []api.Value) bool {
	if len(row) != len(t.Columns) {
		return false
	}
	for i, v := range row {
		null := t.Columns[i].NotNull || slices.Contains(t.Key, i)
		if !value.Right(v) || v.Kind != api.Null && v.Kind != t.Columns[i].Type || v.Kind == api.Null && null {
			return false
		}
	}
	return true
}

func plainTogether(t api.Table, rows [][]api.Value) bool {
	for i, a := range rows {
		for _, b := range rows[:i] {
			if alike(a, b, t.Key) {
				return false
			}
			for _, x := range t.Indexes {
				if x.Unique && alike(a, b, x.Columns) {
					return false
				}
			}
		}
	}
	return true
}

// plainState tells whether a state is right, by the chapter's words.
func plainState(c api.Catalog, s api.State) bool {
	if !catalog.Right(c) || len(s.Tables) != len(c.Tables) {
		return false
	}
	for i, rows := range s.Tables {
		for k, row := range rows {
			if !plainRow(c.Tables[i], row) || k > 0 && !before(rows[k-1], row, c.Tables[i].Key) {
				return false
			}
		}
		if !plainTogether(c.Tables[i], rows) {
			return false
		}
	}
	return true
}

func isLeaf(op int) bool { return op == api.ExprValue || op == api.ExprParam || op == api.ExprColumn }

// plainMeant tells whether nothing within a term makes it ErrTyped.
func plainMeant(t api.Term, row, args []api.Value) bool {
	many := map[int]int{api.ExprNeg: 1, api.ExprNull: 1, api.ExprNot: 1, api.ExprArith: 2, api.ExprCompare: 2}
	if t.Op < api.ExprValue || t.Op > api.ExprOr || many[t.Op] > 0 && many[t.Op] != len(t.Kids) {
		return false
	}
	if t.Op == api.ExprParam && (t.Num < 0 || t.Num >= len(args)) || t.Op == api.ExprColumn && (t.Num < 0 || t.Num >= len(row)) {
		return false
	}
	for _, k := range t.Kids {
		if !isLeaf(t.Op) && !plainMeant(k, row, args) {
			return false
		}
	}
	return true
}

func plainEval(t api.Term, row, args []api.Value) (api.Value, api.Errno) {
	if !plainMeant(t, row, args) {
		return api.Value{}, api.ErrTyped
	}
	return plainWork(t, row, args)
}

func plainWork(t api.Term, row, args []api.Value) (api.Value, api.Errno) {
	var kids []api.Value
	for _, k := range t.Kids {
		if isLeaf(t.Op) {
			break
		}
		v, e := plainWork(k, row, args)
		if e != api.OK {
			return v, e
		}
		kids = append(kids, v)
	}
	switch t.Op {
	case api.ExprValue:
		return t.Value, api.OK
	case api.ExprParam:
		return args[t.Num], api.OK
	case api.ExprColumn:
		return row[t.Num], api.OK
	case api.ExprNeg:
		return value.Neg(kids[0])
	case api.ExprArith:
		return value.Arith(t.Num, kids[0], kids[1])
	case api.ExprCompare:
		return value.Compare(t.Num, kids[0], kids[1])
	case api.ExprNot:
		return value.Not(kids[0])
	case api.ExprAnd:
		return value.And(kids...)
	case api.ExprOr:
		return value.Or(kids...)
	}
	null := kids[0] == api.Value{}
	if t.Num == 1 {
		null = !null
	}
	if null {
		return api.Value{Kind: api.Bool, Int: 1}, api.OK
	}
	return api.Value{Kind: api.Bool}, api.OK
}

// plain goes through a statement by the chapter's words; all errors of its terms are listed.
type plain struct {
	x      api.Typed
	args   []api.Value
	errors []api.Errno
}

func (p *plain) work(t api.Term, row []api.Value) (api.Value, bool) {
	v, e := plainWork(t, row, p.args)
	if e != api.OK {
		p.errors = append(p.errors, e)
	}
	return v, e == api.OK
}

// chosen are the long rows for which Where is TRUE.
func (p *plain) chosen(s api.State) [][]api.Value {
	var long, l [][]api.Value
	for _, a := range s.Tables[p.x.Tables[0]] {
		if len(p.x.Tables) == 1 {
			long = append(long, a)
			continue
		}
		for _, b := range s.Tables[p.x.Tables[1]] {
			row := append(append([]api.Value{}, a...), b...)
			if v, ok := p.work(p.x.On[0], row); ok && v.Kind == api.Bool && v.Int == 1 {
				long = append(long, row)
			}
		}
	}
	for _, row := range long {
		if len(p.x.Where) == 0 {
			l = append(l, row)
		} else if v, ok := p.work(p.x.Where[0], row); ok && v.Kind == api.Bool && v.Int == 1 {
			l = append(l, row)
		}
	}
	return l
}

func (p *plain) items(row []api.Value) []api.Value {
	var l []api.Value
	for _, t := range p.x.Items {
		v, _ := p.work(t, row)
		l = append(l, v)
	}
	return l
}

// placed puts a row behind all those that are not to stand behind it.
func placed(rows [][]api.Value, row []api.Value, ahead func(a, b []api.Value) bool) [][]api.Value {
	i := len(rows)
	for i > 0 && ahead(row, rows[i-1]) {
		i--
	}
	return slices.Insert(rows, i, row)
}

func (p *plain) selection(s api.State) [][]api.Value {
	var told [][]api.Value
	if p.x.Grouped {
		told = p.groups(p.chosen(s))
	} else {
		for _, row := range p.chosen(s) {
			told = append(told, p.items(row))
		}
	}
	var out [][]api.Value
	for _, row := range told {
		out = placed(out, row, func(a, b []api.Value) bool {
			for _, x := range p.x.Sorts {
				if a[x.Item-1] != b[x.Item-1] {
					return (value.Order(a[x.Item-1], b[x.Item-1]) < 0) != x.Desc
				}
			}
			return false
		})
	}
	if len(p.x.Limit) > 0 && p.x.Limit[0] < len(out) {
		out = out[:p.x.Limit[0]]
	}
	return out
}

func (p *plain) groups(chosen [][]api.Value) [][]api.Value {
	var firsts [][]api.Value
	same := func(a, b []api.Value) bool {
		return !before(a, b, p.x.Groups) && !before(b, a, p.x.Groups)
	}
	for _, row := range chosen {
		if !slices.ContainsFunc(firsts, func(f []api.Value) bool { return same(f, row) }) {
			firsts = placed(firsts, row, func(a, b []api.Value) bool { return before(a, b, p.x.Groups) })
		}
	}
	if len(p.x.Groups) == 0 {
		return [][]api.Value{p.group(nil, chosen)}
	}
	var told [][]api.Value
	for _, f := range firsts {
		told = append(told, p.group(f, slices.DeleteFunc(slices.Clone(chosen), func(row []api.Value) bool { return !same(f, row) })))
	}
	return told
}

// group is the row of a group, whose first row is told too.
func (p *plain) group(first []api.Value, rows [][]api.Value) []api.Value {
	var out []api.Value
	for _, t := range p.x.Items {
		var all []api.Value
		least, most, sound := api.Value{}, api.Value{}, true
		for _, row := range rows {
			if len(t.Kids) == 0 {
				break
			}
			v, ok := p.work(t.Kids[0], row)
			all, sound = append(all, v), sound && ok
			if v.Kind != api.Null && (least.Kind == api.Null || value.Order(v, least) < 0) {
				least = v
			}
			if v.Kind != api.Null && value.Order(v, most) > 0 {
				most = v
			}
		}
		switch t.Op {
		case api.ExprCount:
			out = append(out, api.Value{Kind: api.Int, Int: len(rows)})
		case api.ExprSum:
			v, e := value.Sum(all...)
			if sound && e != api.OK {
				p.errors = append(p.errors, e)
			}
			out = append(out, v)
		case api.ExprMin:
			out = append(out, least)
		case api.ExprMax:
			out = append(out, most)
		default:
			out = append(out, first[t.Num])
		}
	}
	return out
}

// change is how many rows come or go, and what is in the table then.
func (p *plain) change(t api.Table, s api.State) (int, [][]api.Value, api.Errno) {
	rows := slices.Clone(s.Tables[p.x.Tables[0]])
	var come [][]api.Value
	count := 1
	if p.x.Kind == api.StmtInsert {
		come = [][]api.Value{p.items(nil)}
	} else {
		chosen := p.chosen(s)
		count = len(chosen)
		for _, old := range chosen {
			rows = slices.DeleteFunc(rows, func(row []api.Value) bool { return &row[0] == &old[0] })
			row := slices.Clone(old)
			for i, v := range p.items(old) {
				row[p.x.Columns[i]] = v
			}
			if p.x.Kind == api.StmtUpdate {
				come = append(come, row)
			}
		}
	}
	if len(p.errors) > 0 {
		return 0, nil, slices.Min(p.errors)
	}
	for _, row := range come {
		if !plainRow(t, row) {
			return 0, nil, api.ErrNotNull
		}
		rows = placed(rows, row, func(a, b []api.Value) bool { return before(a, b, t.Key) })
	}
	if !plainTogether(t, rows) {
		return 0, nil, api.ErrUnique
	}
	return count, rows, api.OK
}

func plainRun(c api.Catalog, params []api.Param, s api.State, x api.Typed, args []api.Value) (api.Result, api.State, api.Errno) {
	if !check.Right(c, params, x) {
		return api.Result{}, api.State{}, api.ErrTyped
	}
	if !plainState(c, s) {
		return api.Result{}, api.State{}, api.ErrState
	}
	for i, v := range args {
		if i >= len(params) || !value.Right(v) || v.Kind != api.Null && v.Kind != params[i].Type {
			return api.Result{}, api.State{}, api.ErrArgs
		}
	}
	if len(args) < len(params) {
		return api.Result{}, api.State{}, api.ErrArgs
	}
	p := plain{x: x, args: args}
	if x.Kind == api.StmtSelect {
		rows := p.selection(s)
		if len(p.errors) > 0 {
			return api.Result{}, s, slices.Min(p.errors)
		}
		return api.Result{Rows: rows}, s, api.OK
	}
	count, rows, e := p.change(c.Tables[x.Tables[0]], s)
	if e != api.OK {
		return api.Result{}, s, e
	}
	left := api.State{Tables: slices.Clone(s.Tables)}
	left.Tables[x.Tables[0]] = rows
	return api.Result{Count: count}, left, api.OK
}

// dice are numbers that look thrown, and are always the same.
type dice uint64

func (d *dice) below(n int) int {
	*d = *d*6364136223846793005 + 1442695040888963407
	return int(*d>>33) % n
}

// one in so many times it is true.
func (d *dice) oneIn(n int) bool { return d.below(n) == 0 }

// world throws a catalog, a state, parameters with arguments, and statements over them. How many numbers there are says how many rows a table may have.
type world struct {
	dice
	numbers int
	catalog api.Catalog
	state   api.State
	params  []api.Param
	args    []api.Value
	scope   []api.Column
}

func newWorld(seed int) *world {
	w := &world{dice: dice(seed), numbers: 6}
	if w.below(2); w.oneIn(30) {
		w.numbers = 100
	}
	for i := range 1 + w.below(3) {
		w.catalog.Tables = append(w.catalog.Tables, w.table([]string{"t", "u", "k"}[i]))
	}
	w.state = denote.Empty(w.catalog)
	for i, t := range w.catalog.Tables {
		w.state.Tables[i] = w.rows(t, w.below(w.numbers+1))
	}
	for i := range w.below(4) {
		w.params = append(w.params, api.Param{Name: []string{"p", "q", "r"}[i], Type: 1 + w.below(3)})
		w.args = append(w.args, w.value(w.params[i].Type, 6))
	}
	return w
}

func (w *world) table(name string) api.Table {
	t := api.Table{Name: name}
	n := 1 + w.below(4)
	for i := range n {
		t.Columns = append(t.Columns, api.Column{Name: string(rune('a' + i)), Type: 1 + w.below(3), NotNull: w.oneIn(4)})
	}
	t.Key = w.places(n, 1+w.below(2))
	for _, place := range t.Key {
		t.Columns[place].NotNull = true
	}
	t.Part = t.Key[w.below(len(t.Key))]
	for i := range w.below(3) {
		t.Indexes = append(t.Indexes, api.Index{Name: "i" + strconv.Itoa(i), Columns: w.places(n, 1+w.below(2)), Unique: w.oneIn(2)})
	}
	return t
}

// places are at most so many of n, in any order.
func (w *world) places(n, most int) []int {
	var l []int
	for range most {
		if p := w.below(n); !slices.Contains(l, p) {
			l = append(l, p)
		}
	}
	return l
}

// value is one of a type; one in so many is NULL.
func (w *world) value(kind, nulls int) api.Value {
	if nulls > 0 && w.oneIn(nulls) {
		return api.Value{}
	}
	switch kind {
	case api.Int:
		if w.oneIn(15) {
			return api.Value{Kind: kind, Int: []int{1 << 62, -1 << 62, 1<<62 - 1}[w.below(3)]}
		}
		return api.Value{Kind: kind, Int: w.below(w.numbers) - 2}
	case api.Bool:
		return api.Value{Kind: kind, Int: w.below(2)}
	}
	return api.Value{Kind: kind, Text: []string{"", "a", "b", "ab", "\x00"}[w.below(5)]}
}

// rows are as many as come out right of some that are thrown.
func (w *world) rows(t api.Table, n int) [][]api.Value {
	var rows [][]api.Value
	for range n {
		var row []api.Value
		for _, c := range t.Columns {
			row = append(row, w.value(c.Type, map[bool]int{false: 3}[c.NotNull]))
		}
		if more := placed(slices.Clone(rows), row, func(a, b []api.Value) bool { return before(a, b, t.Key) }); plainTogether(t, more) {
			rows = more
		}
	}
	return rows
}

func (w *world) leaf(kind int) api.Term {
	var l []api.Term
	for i, c := range w.scope {
		if c.Type == kind {
			l = append(l, api.Term{Op: api.ExprColumn, Num: i, Type: kind})
		}
	}
	if len(l) > 0 && !w.oneIn(3) {
		return l[w.below(len(l))]
	}
	if i := slices.IndexFunc(w.params, func(p api.Param) bool { return p.Type == kind }); i >= 0 && w.oneIn(2) {
		return api.Term{Op: api.ExprParam, Num: i, Type: kind}
	}
	v := w.value(kind, 8)
	v.Int = max(v.Int, -v.Int)
	return api.Term{Op: api.ExprValue, Type: v.Kind, Value: v}
}

func (w *world) term(depth, kind int) api.Term {
	if depth <= 1 || kind == api.Text || w.oneIn(4) {
		return w.leaf(kind)
	}
	x := api.Term{Type: kind}
	kids := func(op, num, n, of int) {
		x.Op, x.Num = op, num
		for range n {
			x.Kids = append(x.Kids, w.term(depth-1-w.below(2), of))
		}
	}
	switch {
	case kind == api.Int && w.oneIn(5):
		kids(api.ExprNeg, 0, 1, api.Int)
	case kind == api.Int:
		kids(api.ExprArith, 1+w.below(5), 2, api.Int)
	case w.oneIn(4):
		kids(api.ExprNull, w.below(2), 1, 1+w.below(3))
	case w.oneIn(2):
		kids(api.ExprCompare, 1+w.below(6), 2, 1+w.below(3))
	case w.oneIn(3):
		kids(api.ExprNot, 0, 1, api.Bool)
	default:
		kids(api.ExprAnd+w.below(2), 0, 2+w.below(3), api.Bool)
	}
	return x
}

// typed is a right statement.
func (w *world) typed() api.Typed {
	all := w.catalog.Tables
	first := w.below(len(all))
	x := api.Typed{Kind: 1 + w.below(4), Tables: []int{first}}
	if w.oneIn(2) {
		x.Kind = api.StmtSelect
	}
	depth := 1 + w.below(4)
	w.scope = all[first].Columns
	switch x.Kind {
	case api.StmtInsert:
		w.scope = nil
		for _, c := range all[first].Columns {
			x.Items = append(x.Items, w.term(depth, c.Type))
		}
		return x
	case api.StmtUpdate:
		x.Columns = w.places(len(w.scope), 1+w.below(3))
		for _, place := range x.Columns {
			x.Items = append(x.Items, w.term(depth, w.scope[place].Type))
		}
	case api.StmtSelect:
		if w.oneIn(2) && len(all) > 1 {
			x.Tables = append(x.Tables, (first+1+w.below(len(all)-1))%len(all))
			w.scope = slices.Concat(w.scope, all[x.Tables[1]].Columns)
			x.On = []api.Term{w.term(depth, api.Bool)}
		}
		w.selection(&x, depth)
	}
	if w.oneIn(2) {
		x.Where = []api.Term{w.term(depth, api.Bool)}
	}
	return x
}

func (w *world) selection(x *api.Typed, depth int) {
	x.Grouped = w.oneIn(2)
	if x.Grouped {
		x.Groups = w.places(len(w.scope), w.below(4))
	}
	for range 1 + w.below(4) {
		switch {
		case !x.Grouped:
			x.Items = append(x.Items, w.term(depth, 1+w.below(3)))
		case len(x.Groups) > 0 && w.oneIn(2):
			place := x.Groups[w.below(len(x.Groups))]
			x.Items = append(x.Items, api.Term{Op: api.ExprColumn, Num: place, Type: w.scope[place].Type})
		default:
			x.Items = append(x.Items, w.overRows(depth))
		}
	}
	for _, t := range x.Items {
		x.Types = append(x.Types, t.Type)
	}
	for range w.below(3) {
		x.Sorts = append(x.Sorts, api.Sort{Item: 1 + w.below(len(x.Items)), Desc: w.oneIn(2)})
	}
	if w.oneIn(3) {
		x.Limit = []int{w.below(6)}
	}
}

func (w *world) overRows(depth int) api.Term {
	op := api.ExprCount + w.below(4)
	if op == api.ExprCount {
		return api.Term{Op: op, Type: api.Int}
	}
	kind := api.Int
	if op != api.ExprSum {
		kind = 1 + w.below(3)
	}
	kid := w.term(depth, kind)
	if op != api.ExprSum {
		kind = kid.Type
	}
	return api.Term{Op: op, Type: kind, Kids: []api.Term{kid}}
}

func told(r api.Result, s api.State, e api.Errno) string {
	return fmt.Sprintf("(%s), %d, %s, %v", shown(r.Rows), r.Count, shownState(s), e)
}

// sound holds all that is promised of a statement against what is told of it, and tells the error.
func sound(t *testing.T, c api.Catalog, params []api.Param, s api.State, x api.Typed, args []api.Value) api.Errno {
	t.Helper()
	r, left, e := denote.Run(c, params, s, x, args...)
	q, wanted, f := plainRun(c, params, s, x, args)
	if told(r, left, e) != told(q, wanted, f) {
		t.Fatalf("with %+v, %+v, %v: Run(%s, %+v) = %s; want %s", c, params, args, shownState(s), x, told(r, left, e), told(q, wanted, f))
	}
	if got := denote.Right(c, s); got != plainState(c, s) {
		t.Fatalf("with %+v: Right(%s) = %v", c, shownState(s), got)
	}
	if e == api.OK {
		stays(t, c, s, x, left)
	}
	return e
}

// stays is P14.4: what is left is right; what the statement does not change stays.
func stays(t *testing.T, c api.Catalog, s api.State, x api.Typed, left api.State) {
	t.Helper()
	if !denote.Right(c, left) || !plainState(c, left) {
		t.Fatalf("%+v leaves %s of %s", x, shownState(left), shownState(s))
	}
	for i, rows := range s.Tables {
		if (x.Kind == api.StmtSelect || i != x.Tables[0]) && shown(rows) != shown(left.Tables[i]) {
			t.Fatalf("%+v leaves %s of %s", x, shownState(left), shownState(s))
		}
	}
}

func TestP143P144Thrown(t *testing.T) {
	met, kinds := map[api.Errno]int{}, map[int]int{}
	for i := range 40000 {
		w := newWorld(i)
		x := w.typed()
		if !check.Right(w.catalog, w.params, x) || !plainState(w.catalog, w.state) {
			t.Fatalf("with %+v and %+v: %+v or %s is not right", w.catalog, w.params, x, shownState(w.state))
		}
		e := sound(t, w.catalog, w.params, w.state, x, w.args)
		met[e]++
		if e == api.OK {
			kinds[x.Kind]++
		}
	}
	for code, least := range map[api.Errno]int{api.OK: 20000, api.ErrZero: 700, api.ErrOverflow: 300, api.ErrNotNull: 300, api.ErrUnique: 300} {
		if met[code] < least {
			t.Errorf("%v: %d times alone", code, met[code])
		}
	}
	for kind := 1; kind <= 4; kind++ {
		if kinds[kind] < 1500 {
			t.Errorf("kind %d: %d times alone", kind, kinds[kind])
		}
	}
}

// One statement behind another, over states that grow and shrink.
func TestP144Runs(t *testing.T) {
	for i := range 150 {
		w := newWorld(i)
		for range 100 {
			x := w.typed()
			for k, p := range w.params {
				w.args[k] = w.value(p.Type, 6)
			}
			sound(t, w.catalog, w.params, w.state, x, w.args)
			_, w.state, _ = denote.Run(w.catalog, w.params, w.state, x, w.args...)
		}
	}
}

// small are the tables of all small states: t, of whose index i is Unique, and u.
func small(unique bool) api.Catalog {
	return api.Catalog{Tables: []api.Table{
		{Name: "t", Columns: columns("a! I", "b I"), Key: []int{0}, Indexes: []api.Index{{Name: "i", Columns: []int{1}, Unique: unique}}},
		{Name: "u", Columns: columns("c! B", "d T"), Key: []int{0}},
	}}
}

// subsets are all lists of some rows in their order.
func subsets(rows ...string) []string {
	l := []string{""}
	for _, row := range rows {
		for _, s := range slices.Clone(l) {
			l = append(l, s+";"+row)
		}
	}
	return l
}

func TestP143AllSmallStates(t *testing.T) {
	sources := []string{
		"SELECT * FROM t", "SELECT b FROM t WHERE b = 1 OR a = 2", "SELECT b, COUNT(*), SUM(a), MIN(a), MAX(b) FROM t GROUP BY b", "SELECT COUNT(*), SUM(b), MIN(b), MAX(b) FROM t", "SELECT a, b FROM t ORDER BY 2 DESC, 1 LIMIT 2",
		"SELECT a / b FROM t", "SELECT 1 / (a - 2), 4611686018427387904 * b FROM t WHERE 2 / (b - 1) > 0", "SELECT b, SUM(1 / (a - 2)), SUM(b * 4611686018427387904) FROM t GROUP BY b", "SELECT SUM(4611686018427387903) FROM t",
		"SELECT a, c FROM t JOIN u ON c = (a = 2)", "SELECT * FROM u JOIN t ON a = 1 OR d IS NULL WHERE NOT c OR b = 1", "SELECT d, COUNT(*) FROM t JOIN u ON TRUE GROUP BY d", "SELECT 1 / (a - b) FROM t JOIN u ON 1 / (a - 2) < 1 WHERE c",
		"INSERT INTO t VALUES (2, 1)", "INSERT INTO t VALUES (4, NULL)", "INSERT INTO t VALUES (0, 2)", "INSERT INTO t VALUES (NULL, 1)", "INSERT INTO t VALUES (1 / 0, NULL)", "INSERT INTO u VALUES (TRUE, NULL)",
		"UPDATE t SET a = 4 - a", "UPDATE t SET a = b", "UPDATE t SET b = a, a = a + 1 WHERE a < 3", "UPDATE t SET b = 3 - b", "UPDATE t SET b = 1 WHERE a > 1", "UPDATE t SET a = 2 WHERE b IS NULL", "UPDATE t SET a = 1 / (a - 3)", "UPDATE u SET c = NOT c", "UPDATE u SET c = c AND d = 'x'",
		"DELETE FROM t", "DELETE FROM t WHERE b = 1", "DELETE FROM t WHERE a % (b - 1) = 0", "DELETE FROM u WHERE d <> 'y'",
	}
	rows := []string{"1 NULL", "1 1", "1 2", "2 NULL", "2 1", "2 2", "3 NULL", "3 1", "3 2"}
	asked := 0
	for _, unique := range []bool{false, true} {
		c := small(unique)
		var typed []api.Typed
		for _, source := range sources {
			s, _ := syntax.Parse(source)
			x, f := check.Check(c, nil, s)
			if f != (api.Fault{}) {
				t.Fatal(source, f)
			}
			typed = append(typed, x)
		}
		for _, a := range subsets(rows...) {
			first := table(a)
			for _, b := range subsets("FALSE 'x'", "TRUE NULL") {
				s := api.State{Tables: [][][]api.Value{first, table(b)}}
				if right := plainState(c, s); right != denote.Right(c, s) {
					t.Fatalf("Right(%s) = %v", shownState(s), !right)
				} else if !right {
					continue
				}
				for _, x := range typed {
					sound(t, c, nil, s, x, nil)
					asked++
				}
			}
		}
	}
	if asked < 10000 {
		t.Error(asked)
	}
}

// All lists of few rows, of which some may not stand in the table.
func TestP141AllSmallTables(t *testing.T) {
	rows := [][]api.Value{nil, list("1"), list("NULL 1"), list("TRUE 1"), list("1 'x'"), list("1 1 1"), {{Kind: api.Int, Int: 1<<62 + 1}, {}}, {{Kind: api.Int, Int: 1}, {Int: 1}}}
	for _, s := range []string{"1 NULL", "1 1", "1 2", "2 NULL", "2 1", "-1 2", "3 1"} {
		rows = append(rows, list(s))
	}
	right := 0
	for _, unique := range []bool{false, true} {
		c := small(unique)
		ask := func(l ...[]api.Value) {
			s := api.State{Tables: [][][]api.Value{l, nil}}
			got := denote.Right(c, s)
			if got != plainState(c, s) {
				t.Fatalf("Right(%v) = %v", s, got)
			}
			if got {
				right++
			}
		}
		ask()
		for _, x := range rows {
			ask(x)
			for _, y := range rows {
				ask(x, y)
				for _, z := range rows {
					ask(x, y, z)
				}
			}
		}
	}
	if right < 50 {
		t.Error(right)
	}
}

// smallTerms are all terms of some Ops and Nums over at most two of some Kids, and some of three.
func smallTerms(kids []api.Term) []api.Term {
	lists := [][]api.Term{nil}
	for _, a := range kids {
		lists = append(lists, []api.Term{a}, []api.Term{a, kids[0], a})
		for _, b := range kids {
			lists = append(lists, []api.Term{a, b})
		}
	}
	var l []api.Term
	for op := -1; op <= api.ExprMax+1; op++ {
		for num := -1; num <= 7; num++ {
			for _, x := range lists {
				l = append(l, api.Term{Op: op, Num: num, Kids: x})
			}
		}
	}
	return l
}

func TestP142AllSmallTerms(t *testing.T) {
	leaves := []api.Term{of("TRUE"), of("NULL"), of("0"), of("2"), of("FALSE"), of("'x'"), of("4611686018427387904"), {Op: api.ExprValue, Value: api.Value{Kind: 9}}, {}, term(api.ExprColumn, 0), term(api.ExprColumn, 1), term(api.ExprParam, 0), term(api.ExprParam, 2)}
	met := map[api.Errno]int{}
	row, args := list("-3 TRUE"), list("'y' NULL")
	ask := func(x api.Term) {
		got, e := denote.Eval(x, row, args)
		want, f := plainEval(x, row, args)
		if got != want || e != f {
			t.Fatalf("Eval(%+v) = %v, %v; want %v, %v", x, got, e, want, f)
		}
		met[e]++
	}
	l := smallTerms(leaves)
	for _, x := range l {
		ask(x)
	}
	// And over some of these once more.
	some := slices.Clone(leaves)
	for d := dice(5); len(some) < 40; {
		if x := l[d.below(len(l))]; plainMeant(x, row, args) && (!isLeaf(x.Op) || d.oneIn(50)) || d.oneIn(50) {
			some = append(some, x)
		}
	}
	for _, x := range smallTerms(some) {
		ask(x)
	}
	for code, least := range map[api.Errno]int{api.OK: 5000, api.ErrTyped: 10000, api.ErrArg: 500, api.ErrValue: 1000, api.ErrType: 5000, api.ErrZero: 10, api.ErrOverflow: 10} {
		if met[code] < least {
			t.Errorf("%v: %d times alone", code, met[code])
		}
	}
}

// slipped is a term one part of which is another one, now and then.
func (w *world) slipped(depth int) api.Term {
	x := w.term(depth, 1+w.below(3))
	parts := partsOf(&x)
	if p := parts[w.below(len(parts))]; w.oneIn(2) {
		if l := others(p); len(l) > 0 {
			p.Set(l[w.below(len(l))])
		}
	}
	return x
}

func TestP142Thrown(t *testing.T) {
	met := map[api.Errno]int{}
	for i := range 30000 {
		w := newWorld(i)
		w.scope = w.catalog.Tables[0].Columns
		row := w.rows(w.catalog.Tables[0], 1)[0]
		x := w.slipped(1 + w.below(7))
		if w.oneIn(4) {
			row = row[:w.below(len(row))]
		}
		got, e := denote.Eval(x, row, w.args)
		want, f := plainEval(x, row, w.args)
		if got != want || e != f {
			t.Fatalf("Eval(%+v, %v, %v) = %v, %v; want %v, %v", x, row, w.args, got, e, want, f)
		}
		met[e]++
	}
	for code, least := range map[api.Errno]int{api.OK: 10000, api.ErrTyped: 2000, api.ErrArg: 50, api.ErrType: 30, api.ErrValue: 50, api.ErrZero: 500, api.ErrOverflow: 200} {
		if met[code] < least {
			t.Errorf("%v: %d times alone", code, met[code])
		}
	}
}

// part is a field, or an element of a list, of something, with the name of the field that has it.
type part struct {
	reflect.Value
	name string
}

// partsOf are all parts of what a pointer points to.
func partsOf(x any) []part {
	var l []part
	var walk func(v reflect.Value, name string)
	walk = func(v reflect.Value, name string) {
		l = append(l, part{v, name})
		switch v.Kind() {
		case reflect.Struct:
			for i := range v.NumField() {
				walk(v.Field(i), v.Type().Field(i).Name)
			}
		case reflect.Slice:
			for i := range v.Len() {
				walk(v.Index(i), name)
			}
		}
	}
	walk(reflect.ValueOf(x).Elem(), "")
	return l
}

// others are values that a part might have instead.
func others(p part) []reflect.Value {
	var l []reflect.Value
	switch p.Kind() {
	case reflect.Int:
		for _, n := range []int{0, 1, 2, 3, 4, 5, 7, 11, 14, -1, 16, 1 << 62, 1<<62 + 1} {
			l = append(l, reflect.ValueOf(n).Convert(p.Type()))
		}
	case reflect.String:
		for _, s := range []string{"", "a", "b", "t", "A", strings.Repeat("x", 64), strings.Repeat("x", 65)} {
			l = append(l, reflect.ValueOf(s))
		}
	case reflect.Bool:
		l = append(l, reflect.ValueOf(!p.Bool()))
	case reflect.Slice:
		l = append(l, reflect.Zero(p.Type()), reflect.MakeSlice(p.Type(), 1, 1))
		if p.Len() > 0 {
			l = append(l, reflect.AppendSlice(p.Slice3(0, p.Len(), p.Len()), p.Value), p.Slice(1, p.Len()), p.Slice(0, p.Len()-1))
		}
		if p.Len() > 1 {
			turned := reflect.AppendSlice(reflect.MakeSlice(p.Type(), 0, 0), p.Slice(1, p.Len()))
			l = append(l, reflect.Append(turned, p.Index(0)))
		}
	}
	return l
}

// all is what Run is handed, and what it answers.
type all struct {
	Catalog api.Catalog
	Params  []api.Param
	State   api.State
	Typed   api.Typed
	Args    []api.Value
	Result  api.Result
	Left    api.State
	Code    api.Errno
}

func (x *all) ask() {
	x.Result, x.Left, x.Code = denote.Run(x.Catalog, x.Params, x.State, x.Typed, x.Args...)
}

func (x *all) told() string { return told(x.Result, x.Left, x.Code) }

func thrownAll(i int) *all {
	w := newWorld(i)
	x := w.typed()
	return &all{Catalog: w.catalog, Params: w.params, State: w.state, Typed: x, Args: w.args}
}

// Each part of what is handed in is changed, one at a time.
func TestP141P143Changed(t *testing.T) {
	met := map[api.Errno]int{}
	for i := range 150 {
		x := thrownAll(i)
		if len(partsOf(x)) > 400 {
			continue
		}
		for _, p := range partsOf(x) {
			was := reflect.New(p.Type()).Elem()
			was.Set(p.Value)
			for _, o := range others(p) {
				p.Set(o)
				met[sound(t, x.Catalog, x.Params, x.State, x.Typed, x.Args)]++
				p.Set(was)
			}
		}
	}
	for code, least := range map[api.Errno]int{api.OK: 5000, api.ErrTyped: 10000, api.ErrState: 10000, api.ErrArgs: 1000, api.ErrZero: 100, api.ErrOverflow: 100, api.ErrNotNull: 100, api.ErrUnique: 100} {
		if met[code] < least {
			t.Errorf("%v: %d times alone", code, met[code])
		}
	}
}

func FuzzP142P143(f *testing.F) {
	for i, s := range []string{"SELECT a, COUNT(*) FROM t GROUP BY a ORDER BY 2 DESC", "UPDATE t SET a = a", "SELECT * FROM t JOIN u ON t.a = u.a", "DELETE FROM t WHERE a = :p", "INSERT INTO t VALUES (:p)"} {
		f.Add(s, i)
	}
	f.Fuzz(func(t *testing.T, source string, seed int) {
		w := newWorld(seed)
		sound(t, w.catalog, w.params, w.state, w.typed(), w.args)
		x := w.slipped(5)
		got, e := denote.Eval(x, w.args, w.args)
		if want, f := plainEval(x, w.args, w.args); got != want || e != f {
			t.Fatalf("Eval(%+v, %v, %v) = %v, %v; want %v, %v", x, w.args, w.args, got, e, want, f)
		}
		s, _ := syntax.Parse(source)
		if x, fault := check.Check(w.catalog, w.params, s); fault == (api.Fault{}) {
			sound(t, w.catalog, w.params, w.state, x, w.args)
		}
		if x, fault := check.Check(defined(), given(), s); fault == (api.Fault{}) {
			sound(t, defined(), given(), chapter(), x, handed())
		}
	})
}

// Beside an error that is not the statement's own nothing is told, beside that the state alone.
func TestR3BesideAnError(t *testing.T) {
	errors := 0
	for i := range 5000 {
		x := thrownAll(i)
		if i%5 == 0 {
			x.Args = append(x.Args, api.Value{})
		}
		if x.ask(); x.Code != api.OK {
			errors++
			want := shownState(x.State)
			if x.Code == api.ErrArgs {
				want = ""
			}
			if x.Result.Rows != nil || x.Result.Count != 0 || shownState(x.Left) != want {
				t.Fatalf("%s", x.told())
			}
		}
	}
	if errors < 1500 {
		t.Error(errors)
	}
}

// Empty lists are as none.
func TestR4EmptyLists(t *testing.T) {
	for i := range 1000 {
		x := thrownAll(i)
		x.ask()
		want := x.told()
		for _, p := range partsOf(x) {
			if p.Kind() == reflect.Slice && p.Len() == 0 {
				p.Set(reflect.MakeSlice(p.Type(), 0, 3))
			}
		}
		if x.ask(); x.told() != want {
			t.Fatalf("%s; with empty lists %s", want, x.told())
		}
	}
	if denote.Right(api.Catalog{}, api.State{Tables: [][][]api.Value{}}) != true {
		t.Error("no tables")
	}
}

// room is the memory of a list, its spare one too, or of a text.
type room struct {
	from, to uintptr
	name     string
}

func roomsOf(x any) []room {
	var l []room
	for _, p := range partsOf(x) {
		switch p.Kind() {
		case reflect.Slice:
			from := p.Pointer()
			l = append(l, room{from, from + uintptr(p.Cap())*p.Type().Elem().Size(), p.name})
		case reflect.String:
			s := p.String()
			from := uintptr(unsafe.Pointer(unsafe.StringData(s)))
			l = append(l, room{from, from + uintptr(len(s)), p.name})
		}
	}
	return slices.DeleteFunc(l, func(r room) bool { return r.from == r.to })
}

func apart(t *testing.T, a, b []room) {
	t.Helper()
	for i, x := range a {
		for j, y := range b {
			if x.from < y.to && y.from < x.to && !(len(a) == len(b) && &a[0] == &b[0] && i == j) {
				t.Fatalf("%s and %s share memory", x.name, y.name)
			}
		}
	}
}

// lengthen makes each text one of several bytes, so that it has memory of its own.
func lengthen(x *all) {
	for _, p := range partsOf(x) {
		if p.name == "Text" && p.String() != "" {
			p.SetString(p.String() + "-" + p.String())
		}
	}
}

func TestR5AnswersAreNew(t *testing.T) {
	rows, texts := 0, 0
	for i := range 2000 {
		x := thrownAll(i)
		lengthen(x)
		x.ask()
		first := *x
		x.ask()
		given := slices.Concat(roomsOf(&x.Catalog), roomsOf(&x.Params), roomsOf(&x.State), roomsOf(&x.Typed), roomsOf(&x.Args))
		told := slices.Concat(roomsOf(&x.Result), roomsOf(&x.Left))
		rows += len(x.Result.Rows)
		texts += len(slices.DeleteFunc(roomsOf(&x.Result), func(r room) bool { return r.name != "Text" }))
		apart(t, told, given)
		apart(t, told, told)
		apart(t, told, roomsOf(&first))
	}
	if rows < 1000 || texts < 300 {
		t.Error(rows, texts)
	}
}

func TestR5EvalAndEmptyAreNew(t *testing.T) {
	text := strings.Repeat("text", 3)
	v := []api.Value{{Kind: api.Text, Text: text}}
	for _, x := range []api.Term{{Op: api.ExprValue, Value: v[0]}, term(api.ExprParam, 0), term(api.ExprColumn, 0)} {
		got, e := denote.Eval(x, v, v)
		if got != v[0] || e != api.OK {
			t.Fatal(got, e)
		}
		apart(t, roomsOf(&got), roomsOf(&v))
		apart(t, roomsOf(&got), roomsOf(&x))
	}
	a, b := denote.Empty(defined()), denote.Empty(defined())
	apart(t, roomsOf(&a), roomsOf(&b))
}

// roomy gives all lists spare room.
func roomy(x any) {
	for _, p := range partsOf(x) {
		if p.Kind() == reflect.Slice {
			wide := reflect.MakeSlice(p.Type(), p.Len(), p.Len()+3)
			reflect.Copy(wide, p.Value)
			p.Set(wide)
		}
	}
}

// whole is all of something, with the spare room of its lists.
func whole(x any) string {
	out := fmt.Sprintf("%+v", reflect.ValueOf(x).Elem().Interface())
	for _, p := range partsOf(x) {
		if p.Kind() == reflect.Slice {
			out += fmt.Sprintf("|%+v", p.Slice3(p.Len(), p.Cap(), p.Cap()).Slice(0, p.Cap()-p.Len()).Interface())
		}
	}
	return out
}

// What is handed in stays as it is, its spare room too.
func TestR5ArgumentsStay(t *testing.T) {
	for i := range 2000 {
		x := thrownAll(i)
		roomy(x)
		before := whole(x)
		denote.Run(x.Catalog, x.Params, x.State, x.Typed, x.Args...)
		denote.Right(x.Catalog, x.State)
		denote.Empty(x.Catalog)
		for _, item := range x.Typed.Items {
			denote.Eval(item, x.Args, x.Args)
		}
		if after := whole(x); after != before {
			t.Fatalf("%s; then %s", before, after)
		}
	}
}

func TestR6TheSameAgain(t *testing.T) {
	for i := range 1000 {
		x, y := thrownAll(i), thrownAll(i+1)
		x.ask()
		want := x.told()
		y.ask()
		denote.Run(y.Catalog, x.Params, y.State, x.Typed, x.Args...)
		if x.ask(); x.told() != want {
			t.Fatalf("%s; then %s", want, x.told())
		}
	}
}
