package plan_test

import (
	"cmp"
	"fmt"
	"reflect"
	"slices"
	"strconv"
	"strings"
	"testing"
	"unsafe"

	"unison/api"
	"unison/check"
	"unison/denote"
	"unison/plan"
	"unison/syntax"
	"unison/value"
)

func shownTerms(l []api.Term) string {
	out := ""
	for _, t := range l {
		out += fmt.Sprintf("(%d %d %d %d.%d.%q %s)", t.Op, t.Num, t.Type, t.Value.Kind, t.Value.Int, t.Value.Text, shownTerms(t.Kids))
	}
	return out
}

func shown(l []api.Access) string {
	out := ""
	for _, a := range l {
		out += fmt.Sprintf("{%d %d %d fixed %s low %v %s high %v %s}", a.Table, a.Way, a.Index, shownTerms(a.Fixed), a.LowOpen, shownTerms(a.Low), a.HighOpen, shownTerms(a.High))
	}
	return out
}

func shownTyped(t api.Typed) string {
	return fmt.Sprint(t.Kind, t.Tables, shownTerms(t.On), "|", shownTerms(t.Where), "|", shownTerms(t.Items), t.Columns, t.Grouped, t.Groups, t.Sorts, t.Limit, t.Types)
}

// plainColumns are where the columns of the n-th table of a statement begin and end in the long row.
func plainColumns(c api.Catalog, t api.Typed, n int) (from, end int) {
	for i := range n + 1 {
		from, end = end, end+len(c.Tables[t.Tables[i]].Columns)
	}
	return from, end
}

func plainKnown(c api.Catalog, t api.Typed, n int, x api.Term) bool {
	if x.Op == api.ExprValue || x.Op == api.ExprParam {
		return true
	}
	_, end := plainColumns(c, t, 0)
	return n == 1 && x.Op == api.ExprColumn && 0 <= x.Num && x.Num < end
}

func plainSafe(l []api.Term) bool {
	for _, x := range l {
		if x.Op == api.ExprNeg || x.Op == api.ExprArith || !plainSafe(x.Kids) {
			return false
		}
	}
	return true
}

func plainConjuncts(x api.Term) []api.Term {
	if x.Op != api.ExprAnd {
		return []api.Term{x}
	}
	var l []api.Term
	for _, kid := range x.Kids {
		l = append(l, plainConjuncts(kid)...)
	}
	return l
}

// plainBound is the term of the first conjunct that binds a column of the long row by one of some comparisons, and that comparison.
func plainBound(c api.Catalog, t api.Typed, n, column int, conjuncts []api.Term, by ...int) ([]api.Term, int) {
	for _, x := range conjuncts {
		if x.Op != api.ExprCompare {
			continue
		}
		for side, kid := range x.Kids {
			op := x.Num
			if side == 1 {
				op = map[int]int{api.CmpLt: api.CmpGt, api.CmpGt: api.CmpLt, api.CmpLe: api.CmpGe, api.CmpGe: api.CmpLe, api.CmpEq: api.CmpEq}[op]
			}
			if kid.Op == api.ExprColumn && kid.Num == column && plainKnown(c, t, n, x.Kids[1-side]) && slices.Contains(by, op) {
				return x.Kids[1-side : 2-side], op
			}
		}
	}
	return nil, 0
}

// plainWay fills an access of some columns.
func plainWay(c api.Catalog, t api.Typed, n int, a api.Access, columns []int, conjuncts []api.Term) api.Access {
	from, _ := plainColumns(c, t, n)
	next := 0
	for ; next < len(columns); next++ {
		x, _ := plainBound(c, t, n, from+columns[next], conjuncts, api.CmpEq)
		if x == nil {
			break
		}
		a.Fixed = append(a.Fixed, x[0])
	}
	if next < len(columns) {
		low, by := plainBound(c, t, n, from+columns[next], conjuncts, api.CmpGe, api.CmpGt)
		a.Low, a.LowOpen = low, by == api.CmpGt
		high, by := plainBound(c, t, n, from+columns[next], conjuncts, api.CmpLe, api.CmpLt)
		a.High, a.HighOpen = high, by == api.CmpLt
	}
	return a
}

// plainAccess is the access of the n-th table, by the chapter's words.
func plainAccess(c api.Catalog, t api.Typed, n int) api.Access {
	place := t.Tables[n]
	all := api.Access{Table: place, Way: api.WayAll}
	if !plainSafe(t.On) || !plainSafe(t.Where) {
		return all
	}
	var conjuncts []api.Term
	for _, x := range slices.Concat(t.Where, t.On) {
		conjuncts = append(conjuncts, plainConjuncts(x)...)
	}
	l := []api.Access{plainWay(c, t, n, api.Access{Table: place, Way: api.WayKey}, c.Tables[place].Key, conjuncts)}
	for i, x := range c.Tables[place].Indexes {
		l = append(l, plainWay(c, t, n, api.Access{Table: place, Way: api.WayIndex, Index: i}, x.Columns, conjuncts))
	}
	slices.SortStableFunc(l, func(a, b api.Access) int {
		return cmp.Or(len(b.Fixed)-len(a.Fixed), len(b.Low)+len(b.High)-len(a.Low)-len(a.High))
	})
	if a := l[0]; len(a.Fixed)+len(a.Low)+len(a.High) > 0 {
		return a
	}
	return all
}

func plainMake(c api.Catalog, params []api.Param, t api.Typed) (api.Plan, api.Errno) {
	if !check.Right(c, params, t) {
		return api.Plan{}, api.ErrTyped
	}
	p := api.Plan{Typed: t}
	for n := range t.Tables {
		if t.Kind != api.StmtInsert {
			p.Access = append(p.Access, plainAccess(c, t, n))
		}
	}
	return p, api.OK
}

// plainTerm tells whether a term may stand for a column of a type.
func plainTerm(c api.Catalog, params []api.Param, t api.Typed, n, kind int, x api.Term) bool {
	want := api.Term{Op: x.Op, Num: x.Num}
	switch {
	case !plainKnown(c, t, n, x):
		return false
	case x.Op == api.ExprParam:
		if x.Num < 0 || x.Num >= len(params) {
			return false
		}
		want.Type = params[x.Num].Type
	case x.Op == api.ExprColumn:
		want.Type = c.Tables[t.Tables[0]].Columns[x.Num].Type
	case !value.Right(x.Value) || x.Value.Kind == api.Int && x.Value.Int < 0:
		return false
	default:
		want.Num, want.Value, want.Type = 0, x.Value, x.Value.Kind
	}
	return len(x.Kids) == 0 && x.Num == want.Num && x.Value == want.Value && x.Type == want.Type && (x.Type == 0 || x.Type == kind)
}

// plainRight tells whether a plan is right, by the chapter's words.
func plainRight(c api.Catalog, params []api.Param, p api.Plan) bool {
	if !check.Right(c, params, p.Typed) {
		return false
	}
	if p.Typed.Kind == api.StmtInsert {
		return len(p.Access) == 0
	}
	if len(p.Access) != len(p.Typed.Tables) {
		return false
	}
	for n, a := range p.Access {
		if a.Table != p.Typed.Tables[n] || !plainRightAccess(c, params, p.Typed, n, a) {
			return false
		}
	}
	return true
}

func plainRightAccess(c api.Catalog, params []api.Param, t api.Typed, n int, a api.Access) bool {
	table := c.Tables[t.Tables[n]]
	columns := table.Key
	switch {
	case a.Way == api.WayAll:
		return shown([]api.Access{a}) == shown([]api.Access{{Table: a.Table, Way: a.Way}})
	case a.Way == api.WayKey && a.Index != 0:
		return false
	case a.Way == api.WayKey:
	case a.Way != api.WayIndex || a.Index < 0 || a.Index >= len(table.Indexes):
		return false
	default:
		columns = table.Indexes[a.Index].Columns
	}
	bounds := len(a.Low) + len(a.High)
	if len(a.Low) > 1 || len(a.High) > 1 || a.LowOpen && len(a.Low) == 0 || a.HighOpen && len(a.High) == 0 || len(a.Fixed) > len(columns) || bounds > 0 && len(a.Fixed) == len(columns) || len(a.Fixed)+bounds == 0 {
		return false
	}
	for i, x := range slices.Concat(a.Fixed, a.Low, a.High) {
		if !plainTerm(c, params, t, n, table.Columns[columns[min(i, len(a.Fixed), len(columns)-1)]].Type, x) {
			return false
		}
	}
	return true
}

func plainExplain(c api.Catalog, params []api.Param, p api.Plan) (string, api.Errno) {
	if !plainRight(c, params, p) {
		return "", api.ErrPlan
	}
	out := ""
	for _, a := range p.Access {
		table := c.Tables[a.Table]
		columns, tests := table.Key, []string{}
		head := map[int]string{api.WayAll: "all", api.WayKey: "key ", api.WayIndex: "index "}[a.Way]
		if a.Way == api.WayIndex {
			columns = table.Indexes[a.Index].Columns
			head += table.Indexes[a.Index].Name + " "
		}
		put := func(place int, sign string, l []api.Term) {
			for i, x := range l {
				s, _ := value.Print(x.Value)
				switch x.Op {
				case api.ExprParam:
					s = ":" + params[x.Num].Name
				case api.ExprColumn:
					first := c.Tables[p.Typed.Tables[0]]
					s = first.Name + "." + first.Columns[x.Num].Name
				}
				tests = append(tests, fmt.Sprintf("%s %s %s", table.Columns[columns[place+i]].Name, sign, s))
			}
		}
		put(0, "=", a.Fixed)
		put(len(a.Fixed), map[bool]string{false: ">=", true: ">"}[a.LowOpen], a.Low)
		put(len(a.Fixed), map[bool]string{false: "<=", true: "<"}[a.HighOpen], a.High)
		out += table.Name + ": " + head + strings.Join(tests, ", ") + "\n"
	}
	return out, api.OK
}

type dice uint64

func (d *dice) below(n int) int {
	*d = *d*6364136223846793005 + 1442695040888963407
	return int(*d>>33) % n
}

// one in so many times it is true.
func (d *dice) oneIn(n int) bool { return d.below(n) == 0 }

// world throws a catalog, a state, parameters with arguments, statements over them, and accesses of these.
type world struct {
	dice
	catalog api.Catalog
	state   api.State
	params  []api.Param
	args    []api.Value
	scope   []api.Column
}

func newWorld(seed int) *world {
	w := &world{dice: dice(seed)}
	w.below(2)
	for i := range 1 + w.below(3) {
		w.catalog.Tables = append(w.catalog.Tables, w.table([]string{"t", "u", "k"}[i]))
	}
	w.state = denote.Empty(w.catalog)
	for i, t := range w.catalog.Tables {
		w.state.Tables[i] = w.rows(t, w.below(7))
	}
	for i := range w.below(4) {
		w.params = append(w.params, api.Param{Name: []string{"p", "q", "r"}[i], Type: 1 + w.below(3)})
		w.args = append(w.args, w.value(w.params[i].Type, 6))
	}
	return w
}

func (w *world) table(name string) api.Table {
	t := api.Table{Name: name}
	n := 1 + w.below(5)
	for i := range n {
		t.Columns = append(t.Columns, api.Column{Name: string(rune('a' + i)), Type: []int{1, 1, 2, 3}[w.below(4)], NotNull: w.oneIn(4)})
	}
	t.Key = w.places(n, 1+w.below(3))
	for _, place := range t.Key {
		t.Columns[place].NotNull = true
	}
	t.Part = t.Key[w.below(len(t.Key))]
	for i := range w.below(5) {
		t.Indexes = append(t.Indexes, api.Index{Name: "i" + strconv.Itoa(i), Columns: w.places(n, 1+w.below(3)), Unique: w.oneIn(4)})
	}
	return t
}

// places are at most so many of n, in any order.
func (w *world) places(n, most int) []int {
	var l []int
	for range most {
		if p := w.below(n); !slices.Contains(l, p) {
			l = append(l, p)
		}
	}
	return l
}

// value is one of a type; one in so many is NULL.
func (w *world) value(kind, nulls int) api.Value {
	if nulls > 0 && w.oneIn(nulls) {
		return api.Value{}
	}
	switch kind {
	case api.Int:
		return api.Value{Kind: kind, Int: w.below(6) - 1}
	case api.Bool:
		return api.Value{Kind: kind, Int: w.below(2)}
	}
	return api.Value{Kind: kind, Text: []string{"", "a", "b", "ab", "\x00"}[w.below(5)]}
}

// rows are as many as come out right of some that are thrown.
func (w *world) rows(t api.Table, n int) [][]api.Value {
	c := api.Catalog{Tables: []api.Table{t}}
	var rows [][]api.Value
	for range n {
		var row []api.Value
		for _, c := range t.Columns {
			row = append(row, w.value(c.Type, map[bool]int{false: 3}[c.NotNull]))
		}
		more := append(slices.Clone(rows), row)
		slices.SortFunc(more, func(a, b []api.Value) int {
			for _, place := range t.Key {
				if o := value.Order(a[place], b[place]); o != 0 {
					return o
				}
			}
			return 0
		})
		if denote.Right(c, api.State{Tables: [][][]api.Value{more}}) {
			rows = more
		}
	}
	return rows
}

func (w *world) leaf(kind int) api.Term {
	var l []api.Term
	for i, c := range w.scope {
		if c.Type == kind {
			l = append(l, column(i, kind))
		}
	}
	if len(l) > 0 && !w.oneIn(3) {
		return l[w.below(len(l))]
	}
	if i := slices.IndexFunc(w.params, func(p api.Param) bool { return p.Type == kind }); i >= 0 && w.oneIn(2) {
		return api.Term{Op: api.ExprParam, Num: i, Type: kind}
	}
	v := w.value(kind, 8)
	v.Int = max(v.Int, -v.Int)
	return api.Term{Op: api.ExprValue, Type: v.Kind, Value: v}
}

func (w *world) term(depth, kind int) api.Term {
	if depth <= 1 || kind == api.Text || kind == api.Int && !w.oneIn(20) || w.oneIn(8) {
		return w.leaf(kind)
	}
	x := api.Term{Type: kind}
	kids := func(op, num, n, of int) {
		x.Op, x.Num = op, num
		for range n {
			x.Kids = append(x.Kids, w.term(depth-1, of))
		}
	}
	switch {
	case kind == api.Int && w.oneIn(3):
		kids(api.ExprNeg, 0, 1, api.Int)
	case kind == api.Int:
		kids(api.ExprArith, 1+w.below(5), 2, api.Int)
	case depth > 2 && !w.oneIn(3):
		kids(api.ExprAnd, 0, 2+w.below(4), api.Bool)
	case w.oneIn(12):
		kids(api.ExprOr, 0, 2+w.below(3), api.Bool)
	case w.oneIn(12):
		kids(api.ExprNot, 0, 1, api.Bool)
	case w.oneIn(12):
		kids(api.ExprNull, w.below(2), 1, 1+w.below(3))
	case w.oneIn(3) || len(w.scope) == 0:
		kids(api.ExprCompare, 1+w.below(6), 2, 1+w.below(3))
	default:
		return w.binding()
	}
	return x
}

// test is a binding, or some other truth, or a row of AND of these, and of such rows.
func (w *world) test(depth int) api.Term {
	switch {
	case w.oneIn(12):
		return w.term(1+w.below(4), api.Bool)
	case depth == 1 || w.oneIn(3):
		return w.binding()
	}
	x := api.Term{Op: api.ExprAnd, Type: api.Bool}
	for range 2 + w.below(3) {
		x.Kids = append(x.Kids, w.test(depth-1))
	}
	return x
}

// binding is a comparison of a column, on whatever side, and most often another table's column, a parameter or a value.
func (w *world) binding() api.Term {
	place := w.below(len(w.scope))
	kind := w.scope[place].Type
	kids := []api.Term{column(place, kind), w.leaf(kind)}
	for kids[1].Op == api.ExprColumn && !w.oneIn(4) {
		kids[1] = w.leaf(kind)
	}
	if w.oneIn(2) {
		slices.Reverse(kids)
	}
	return api.Term{Op: api.ExprCompare, Num: []int{1, 1, 1, 1, 2, 3, 4, 5, 6}[w.below(9)], Type: api.Bool, Kids: kids}
}

// typed is a right statement.
func (w *world) typed() api.Typed {
	all := w.catalog.Tables
	first := w.below(len(all))
	x := api.Typed{Kind: 1 + w.below(4), Tables: []int{first}}
	if w.oneIn(2) {
		x.Kind = api.StmtSelect
	}
	w.scope = all[first].Columns
	switch x.Kind {
	case api.StmtInsert:
		w.scope = nil
		for _, c := range all[first].Columns {
			x.Items = append(x.Items, w.term(3, c.Type))
		}
		return x
	case api.StmtUpdate:
		x.Columns = w.places(len(w.scope), 1+w.below(3))
		for _, place := range x.Columns {
			x.Items = append(x.Items, w.term(3, w.scope[place].Type))
		}
	case api.StmtSelect:
		if !w.oneIn(3) && len(all) > 1 {
			x.Tables = append(x.Tables, (first+1+w.below(len(all)-1))%len(all))
			w.scope = slices.Concat(w.scope, all[x.Tables[1]].Columns)
			x.On = []api.Term{w.test(3)}
		}
		w.selection(&x)
	}
	if !w.oneIn(4) {
		x.Where = []api.Term{w.test(3)}
	}
	return x
}

func (w *world) selection(x *api.Typed) {
	if w.oneIn(3) {
		x.Grouped, x.Groups = true, w.places(len(w.scope), w.below(3))
		x.Items = []api.Term{{Op: api.ExprCount, Type: api.Int}}
		for _, place := range x.Groups {
			x.Items = append(x.Items, column(place, w.scope[place].Type))
		}
	} else {
		for range 1 + w.below(3) {
			x.Items = append(x.Items, w.term(3, 1+w.below(3)))
		}
	}
	for _, t := range x.Items {
		x.Types = append(x.Types, t.Type)
	}
	if w.oneIn(3) {
		x.Sorts = []api.Sort{{Item: 1 + w.below(len(x.Items)), Desc: w.oneIn(2)}}
	}
	if w.oneIn(3) {
		x.Limit = []int{w.below(6)}
	}
}

// access is one of the n-th table of a statement that is right, but for a slip now and then.
func (w *world) access(t api.Typed, n int) api.Access {
	table := w.catalog.Tables[t.Tables[n]]
	a := api.Access{Table: t.Tables[n], Way: 1 + w.below(3)}
	columns := table.Key
	w.scope = nil
	if n == 1 {
		w.scope = w.catalog.Tables[t.Tables[0]].Columns
	}
	switch {
	case a.Way == api.WayAll && !w.oneIn(10):
		return a
	case a.Way == api.WayIndex && len(table.Indexes) > 0:
		a.Index = w.below(len(table.Indexes))
		columns = table.Indexes[a.Index].Columns
	case !w.oneIn(10):
		a.Way = api.WayKey
	}
	fixed := w.below(len(columns) + 1)
	for _, place := range columns[:fixed] {
		a.Fixed = append(a.Fixed, w.leaf(table.Columns[place].Type))
	}
	if fixed < len(columns) || w.oneIn(10) {
		kind := table.Columns[columns[min(fixed, len(columns)-1)]].Type
		if w.oneIn(2) {
			a.Low, a.LowOpen = []api.Term{w.leaf(kind)}, w.oneIn(2)
		}
		if w.oneIn(2) || fixed == 0 && a.Low == nil {
			a.High, a.HighOpen = []api.Term{w.leaf(kind)}, w.oneIn(2)
		}
	}
	return a
}

// thrown is a plan whose accesses are not those that Make would take.
func (w *world) thrown() api.Plan {
	p := api.Plan{Typed: w.typed()}
	for n := range p.Typed.Tables {
		if p.Typed.Kind != api.StmtInsert {
			p.Access = append(p.Access, w.access(p.Typed, n))
		}
	}
	return p
}

// soundMake holds what Make tells against the chapter's words.
func soundMake(t *testing.T, c api.Catalog, params []api.Param, x api.Typed) (api.Plan, api.Errno) {
	t.Helper()
	got, e := plan.Make(c, params, x)
	want, f := plainMake(c, params, x)
	if shown(got.Access) != shown(want.Access) || !same(got.Typed, want.Typed) || e != f {
		t.Fatalf("with %+v, %+v: Make(%s) = %s, %v; want %s, %v", c, params, shownTyped(x), shown(got.Access), e, shown(want.Access), f)
	}
	if e == api.OK && !sound(t, c, params, got) {
		t.Fatalf("with %+v, %+v: Make(%s) = %s: not right", c, params, shownTyped(x), shown(got.Access))
	}
	return got, e
}

// sound holds what Right and Explain tell against the chapter's words, and tells whether the plan is right.
func sound(t *testing.T, c api.Catalog, params []api.Param, p api.Plan) bool {
	t.Helper()
	right := plainRight(c, params, p)
	if plan.Right(c, params, p) != right {
		t.Fatalf("with %+v, %+v: Right(%s, %s) = %v", c, params, shownTyped(p.Typed), shown(p.Access), !right)
	}
	got, e := plan.Explain(c, params, p)
	if want, f := plainExplain(c, params, p); got != want || e != f {
		t.Fatalf("with %+v, %+v: Explain(%s, %s) = %q, %v; want %q, %v", c, params, shownTyped(p.Typed), shown(p.Access), got, e, want, f)
	}
	return right
}

// lets tells whether an access lets a row through, by the chapter's words; the terms are worked out of the row ahead of it.
func lets(t *testing.T, c api.Catalog, a api.Access, first, row, args []api.Value) bool {
	columns := c.Tables[a.Table].Key
	switch a.Way {
	case api.WayAll:
		return true
	case api.WayIndex:
		columns = c.Tables[a.Table].Indexes[a.Index].Columns
	}
	holds := func(place, op int, x api.Term) bool {
		to, e := denote.Eval(x, first, args)
		v, f := value.Compare(op, row[columns[place]], to)
		if e != api.OK || f != api.OK {
			t.Fatal(e, f)
		}
		return v == api.Value{Kind: api.Bool, Int: 1}
	}
	for i, x := range a.Fixed {
		if !holds(i, api.CmpEq, x) {
			return false
		}
	}
	for _, x := range a.Low {
		if !holds(len(a.Fixed), map[bool]int{false: api.CmpGe, true: api.CmpGt}[a.LowOpen], x) {
			return false
		}
	}
	for _, x := range a.High {
		if !holds(len(a.Fixed), map[bool]int{false: api.CmpLe, true: api.CmpLt}[a.HighOpen], x) {
			return false
		}
	}
	return true
}

// chosen tells whether a long row is, and whether a term of On or Where has an error there.
func chosen(x api.Typed, long, args []api.Value) (all, wrong bool) {
	all = true
	for _, test := range slices.Concat(x.On, x.Where) {
		v, e := denote.Eval(test, long, args)
		all = all && v == api.Value{Kind: api.Bool, Int: 1}
		wrong = wrong || e != api.OK
	}
	return all, wrong
}

// leavesOut is P15.3 of a plan over a state: it tells how many long rows are left out, and how many of the others are chosen.
func leavesOut(t *testing.T, c api.Catalog, s api.State, p api.Plan, args []api.Value) (out, in int) {
	t.Helper()
	ask := func(through bool, long []api.Value) {
		all, wrong := chosen(p.Typed, long, args)
		if !through && (all || wrong) {
			t.Fatalf("with %+v, %v: %v is left out by %s of %s", c, args, long, shown(p.Access), shownTyped(p.Typed))
		}
		if !through {
			out++
		} else if all {
			in++
		}
	}
	if p.Typed.Kind == api.StmtInsert {
		return 0, 0
	}
	for _, a := range s.Tables[p.Typed.Tables[0]] {
		through := lets(t, c, p.Access[0], nil, a, args)
		if len(p.Typed.Tables) == 1 {
			ask(through, a)
			continue
		}
		for _, b := range s.Tables[p.Typed.Tables[1]] {
			ask(through && lets(t, c, p.Access[1], a, b, args), slices.Concat(a, b))
		}
	}
	return out, in
}

func TestP151P153Thrown(t *testing.T) {
	ways, fixed, bounds, out, in := map[int]int{}, map[int]int{}, map[int]int{}, 0, 0
	for i := range 20000 {
		w := newWorld(i)
		x := w.typed()
		if !check.Right(w.catalog, w.params, x) || !denote.Right(w.catalog, w.state) {
			t.Fatalf("with %+v and %+v: %s or %v is not right", w.catalog, w.params, shownTyped(x), w.state)
		}
		p, _ := soundMake(t, w.catalog, w.params, x)
		for n, a := range p.Access {
			ways[a.Way+10*n]++
			fixed[len(a.Fixed)]++
			bounds[len(a.Low)+len(a.High)]++
		}
		n, m := leavesOut(t, w.catalog, w.state, p, w.args)
		out, in = out+n, in+m
	}
	for _, way := range []int{1, 2, 3, 11, 12, 13} {
		if ways[way] < 1000 {
			t.Errorf("way %d: %d times alone", way, ways[way])
		}
	}
	if fixed[1] < 5000 || fixed[2] < 1000 || fixed[3] < 100 || bounds[1] < 3000 || bounds[2] < 300 || out < 20000 || in < 5000 {
		t.Error(fixed, bounds, out, in)
	}
}

func TestP151P152ThrownPlans(t *testing.T) {
	right := map[bool]int{}
	for i := range 20000 {
		w := newWorld(i)
		right[sound(t, w.catalog, w.params, w.thrown())]++
	}
	if right[true] < 10000 || right[false] < 500 {
		t.Error(right)
	}
}

// All statements whose Where is at most two of some tests, and a join's with all of them in On.
func TestP151P153AllSmallStatements(t *testing.T) {
	tests := []string{"a = 1", "1 = a", "a < 2", "2 < a", "a >= :n", "b = 'x'", "b > :p", "'y' >= b", "a <> 1", "a = NULL", "b IS NULL", "a = a", "a = -1", "NOT a = 1", "a = 1 OR b = 'x'", "(b <= 'y' AND a > 0)", "TRUE"}
	joins := []string{"TRUE", "a = c", "c = a", "d < a", "a <= d", "c = 1", "1 = d", "d > :n", "c = d", "a <> c", "(c = a AND d = a)"}
	var sources []string
	for _, one := range tests {
		sources = append(sources, "SELECT a FROM t WHERE "+one, "DELETE FROM t WHERE "+one, "UPDATE t SET b = 'z' WHERE "+one)
		for _, two := range tests {
			sources = append(sources, "SELECT a FROM t WHERE ("+one+") AND ("+two+")")
		}
		for _, on := range joins {
			for _, also := range joins {
				sources = append(sources, "SELECT a FROM t JOIN u ON "+on+" AND "+also+" WHERE "+one, "SELECT a FROM u JOIN t ON "+on+" AND ("+one+") WHERE "+also)
			}
		}
	}
	s := denote.Empty(defined())
	for n := -1; n <= 3; n++ {
		number := api.Value{Kind: api.Int, Int: n}
		s.Tables[0] = append(s.Tables[0], []api.Value{number, []api.Value{{}, {Kind: api.Text, Text: "x"}, {Kind: api.Text, Text: "y"}}[(n+1)%3]})
		for m := range 3 {
			s.Tables[1] = append(s.Tables[1], []api.Value{number, {Kind: api.Int, Int: m}})
		}
	}
	args := []api.Value{{Kind: api.Int, Int: 1}, {Kind: api.Bool}, {Kind: api.Text, Text: "x"}}
	if !denote.Right(defined(), s) {
		t.Fatal(s)
	}
	for _, source := range sources {
		p, e := soundMake(t, defined(), given(), typed(t, source))
		if e != api.OK {
			t.Fatal(source, e)
		}
		leavesOut(t, defined(), s, p, args)
	}
}

// All accesses of few parts.
func TestP151P152AllSmallAccesses(t *testing.T) {
	leaves := []api.Term{of("1"), of("NULL"), of("'x'"), param(0), param(2), column(0, api.Int), column(1, api.Text), column(2, api.Int), {Op: api.ExprParam, Num: 3, Type: api.Int}, {Op: api.ExprValue, Type: api.Int}, {Op: api.ExprCount, Type: api.Int}}
	lists := [][]api.Term{nil}
	for _, x := range leaves {
		lists = append(lists, terms(x))
		for _, y := range leaves[:5] {
			lists = append(lists, terms(x, y))
		}
	}
	right := 0
	for _, source := range []string{"SELECT a FROM t", "SELECT a FROM u JOIN t ON TRUE", "SELECT a FROM t JOIN u ON TRUE"} {
		p := made(t, source)
		n := len(p.Access) - 1
		ask := func(way, index int, fixed, low, high []api.Term) {
			for open := range 4 {
				p.Access[n] = api.Access{Table: p.Typed.Tables[n], Way: way, Index: index, Fixed: fixed, Low: low, High: high, LowOpen: open%2 == 1, HighOpen: open/2 == 1}
				if sound(t, defined(), given(), p) {
					right++
				}
			}
		}
		for way := 0; way <= 4; way++ {
			for index := -1; index <= 1; index++ {
				for _, fixed := range lists {
					ask(way, index, fixed, nil, nil)
					ask(way, index, fixed, lists[1], nil)
					ask(way, index, fixed, nil, lists[1])
					ask(way, index, lists[13], fixed, lists[1])
					ask(way, index, nil, lists[1], fixed)
					ask(way, index, nil, fixed, nil)
				}
			}
		}
	}
	if right < 200 {
		t.Error(right)
	}
}

// part is a field, or an element of a list, of something, with the name of the field that has it.
type part struct {
	reflect.Value
	name string
}

// partsOf are all parts of what a pointer points to.
func partsOf(x any) []part {
	var l []part
	var walk func(v reflect.Value, name string)
	walk = func(v reflect.Value, name string) {
		l = append(l, part{v, name})
		switch v.Kind() {
		case reflect.Struct:
			for i := range v.NumField() {
				walk(v.Field(i), v.Type().Field(i).Name)
			}
		case reflect.Slice:
			for i := range v.Len() {
				walk(v.Index(i), name)
			}
		}
	}
	walk(reflect.ValueOf(x).Elem(), "")
	return l
}

// others are values that a part might have instead.
func others(p part) []reflect.Value {
	var l []reflect.Value
	switch p.Kind() {
	case reflect.Int:
		for _, n := range []int{0, 1, 2, 3, 4, 5, 7, 11, 14, -1, 16, 1 << 62, 1<<62 + 1} {
			l = append(l, reflect.ValueOf(n).Convert(p.Type()))
		}
	case reflect.String:
		for _, s := range []string{"", "a", "b", "t", "A", strings.Repeat("x", 64), strings.Repeat("x", 65)} {
			l = append(l, reflect.ValueOf(s))
		}
	case reflect.Bool:
		l = append(l, reflect.ValueOf(!p.Bool()))
	case reflect.Slice:
		l = append(l, reflect.Zero(p.Type()), reflect.MakeSlice(p.Type(), 1, 1))
		if p.Len() > 0 {
			l = append(l, reflect.AppendSlice(p.Slice3(0, p.Len(), p.Len()), p.Value), p.Slice(1, p.Len()), p.Slice(0, p.Len()-1))
		}
		if p.Len() > 1 {
			turned := reflect.AppendSlice(reflect.MakeSlice(p.Type(), 0, 0), p.Slice(1, p.Len()))
			l = append(l, reflect.Append(turned, p.Index(0)))
		}
	}
	return l
}

// all is what the calls are handed, and what they answer.
type all struct {
	Catalog api.Catalog
	Params  []api.Param
	Plan    api.Plan
	Made    api.Plan
	Code    api.Errno
	Right   bool
	Text    string
	Told    api.Errno
}

func (x *all) ask() {
	x.Made, x.Code = plan.Make(x.Catalog, x.Params, x.Plan.Typed)
	x.Right = plan.Right(x.Catalog, x.Params, x.Plan)
	x.Text, x.Told = plan.Explain(x.Catalog, x.Params, x.Plan)
}

func (x *all) told() string {
	return fmt.Sprint(shownTyped(x.Made.Typed), shown(x.Made.Access), x.Code, x.Right, x.Text, x.Told)
}

func thrownAll(i int) *all {
	w := newWorld(i)
	return &all{Catalog: w.catalog, Params: w.params, Plan: w.thrown()}
}

// Each part of what is handed in is changed, one at a time.
func TestP151P152Changed(t *testing.T) {
	typed, right := map[api.Errno]int{}, map[bool]int{}
	for i := range 40 {
		x := thrownAll(i)
		if len(partsOf(x)) > 400 {
			continue
		}
		for _, p := range partsOf(x) {
			was := reflect.New(p.Type()).Elem()
			was.Set(p.Value)
			for _, o := range others(p) {
				p.Set(o)
				_, e := soundMake(t, x.Catalog, x.Params, x.Plan.Typed)
				typed[e]++
				right[sound(t, x.Catalog, x.Params, x.Plan)]++
				p.Set(was)
			}
		}
	}
	if typed[api.OK] < 10000 || typed[api.ErrTyped] < 10000 || right[true] < 5000 || right[false] < 10000 {
		t.Error(typed, right)
	}
}

func FuzzP151P152(f *testing.F) {
	for i, s := range []string{"SELECT * FROM t WHERE b = :p AND a > 2 AND 9 >= a", "UPDATE t SET a = a WHERE a <= 5", "SELECT * FROM t JOIN u ON a = c WHERE d >= 1", "DELETE FROM w WHERE n = :n AND p < 1", "INSERT INTO t VALUES (:n, 'x')"} {
		f.Add(s, i)
	}
	f.Fuzz(func(t *testing.T, source string, seed int) {
		w := newWorld(seed)
		p, _ := soundMake(t, w.catalog, w.params, w.typed())
		leavesOut(t, w.catalog, w.state, p, w.args)
		sound(t, w.catalog, w.params, w.thrown())
		s, _ := syntax.Parse(source)
		if x, fault := check.Check(w.catalog, w.params, s); fault == (api.Fault{}) {
			p, _ := soundMake(t, w.catalog, w.params, x)
			leavesOut(t, w.catalog, w.state, p, w.args)
		}
		if x, fault := check.Check(defined(), given(), s); fault == (api.Fault{}) {
			soundMake(t, defined(), given(), x)
		}
	})
}

// Empty lists are as none.
func TestR4EmptyLists(t *testing.T) {
	for i := range 1000 {
		x := thrownAll(i)
		x.ask()
		want := x.told()
		for _, p := range partsOf(x) {
			if p.Kind() == reflect.Slice && p.Len() == 0 {
				p.Set(reflect.MakeSlice(p.Type(), 0, 3))
			}
		}
		if x.ask(); x.told() != want {
			t.Fatalf("%s; with empty lists %s", want, x.told())
		}
	}
}

// room is the memory of a list, its spare one too, or of a text.
type room struct {
	from, to uintptr
	name     string
}

func roomsOf(x any) []room {
	var l []room
	for _, p := range partsOf(x) {
		switch p.Kind() {
		case reflect.Slice:
			from := p.Pointer()
			l = append(l, room{from, from + uintptr(p.Cap())*p.Type().Elem().Size(), p.name})
		case reflect.String:
			s := p.String()
			from := uintptr(unsafe.Pointer(unsafe.StringData(s)))
			l = append(l, room{from, from + uintptr(len(s)), p.name})
		}
	}
	return slices.DeleteFunc(l, func(r room) bool { return r.from == r.to })
}

func apart(t *testing.T, a, b []room) {
	t.Helper()
	for i, x := range a {
		for j, y := range b {
			if x.from < y.to && y.from < x.to && !(len(a) == len(b) && &a[0] == &b[0] && i == j) {
				t.Fatalf("%s and %s share memory", x.name, y.name)
			}
		}
	}
}

// lengthen makes each text one of several bytes, so that it has memory of its own.
func lengthen(x *all) {
	for _, p := range partsOf(&x.Plan) {
		if p.name == "Text" && p.String() != "" {
			p.SetString(p.String() + "-" + p.String())
		}
	}
}

func TestR5AnswersAreNew(t *testing.T) {
	lists, texts := 0, 0
	for i := range 3000 {
		x := thrownAll(i)
		lengthen(x)
		x.ask()
		first := *x
		x.ask()
		given := slices.Concat(roomsOf(&x.Catalog), roomsOf(&x.Params), roomsOf(&x.Plan))
		told := slices.Concat(roomsOf(&x.Made), roomsOf(&x.Text))
		for _, r := range roomsOf(&x.Made.Access) {
			if r.name == "Text" {
				texts++
			} else {
				lists++
			}
		}
		apart(t, told, given)
		apart(t, told, told)
		apart(t, told, slices.Concat(roomsOf(&first.Made), roomsOf(&first.Text)))
	}
	if lists < 3000 || texts < 100 {
		t.Error(lists, texts)
	}
}

// roomy gives all lists spare room.
func roomy(x any) {
	for _, p := range partsOf(x) {
		if p.Kind() == reflect.Slice {
			wide := reflect.MakeSlice(p.Type(), p.Len(), p.Len()+3)
			reflect.Copy(wide, p.Value)
			p.Set(wide)
		}
	}
}

// whole is all of something, with the spare room of its lists.
func whole(x any) string {
	out := fmt.Sprintf("%+v", reflect.ValueOf(x).Elem().Interface())
	for _, p := range partsOf(x) {
		if p.Kind() == reflect.Slice {
			out += fmt.Sprintf("|%+v", p.Slice3(p.Len(), p.Cap(), p.Cap()).Slice(0, p.Cap()-p.Len()).Interface())
		}
	}
	return out
}

// What is handed in stays as it is, its spare room too.
func TestR5ArgumentsStay(t *testing.T) {
	for i := range 500 {
		x := thrownAll(i)
		roomy(x)
		before := whole(x)
		plan.Make(x.Catalog, x.Params, x.Plan.Typed)
		plan.Right(x.Catalog, x.Params, x.Plan)
		plan.Explain(x.Catalog, x.Params, x.Plan)
		if after := whole(x); after != before {
			t.Fatalf("%s; then %s", before, after)
		}
	}
}

func TestR6TheSameAgain(t *testing.T) {
	for i := range 1000 {
		x, y := thrownAll(i), thrownAll(i+1)
		x.ask()
		want := x.told()
		y.ask()
		plan.Make(y.Catalog, x.Params, x.Plan.Typed)
		if x.ask(); x.told() != want {
			t.Fatalf("%s; then %s", want, x.told())
		}
	}
}

// Beside an error nothing is told.
func TestR3BesideAnError(t *testing.T) {
	typed, right := 0, 0
	for i := range 3000 {
		x := thrownAll(i)
		if i%3 == 0 {
			x.Plan.Typed.Kind += 7
		}
		x.ask()
		if x.Code != api.OK {
			typed++
			if !reflect.DeepEqual(x.Made, api.Plan{}) {
				t.Fatal(x.told())
			}
		}
		if x.Told != api.OK {
			right++
			if x.Text != "" || x.Right {
				t.Fatal(x.told())
			}
		}
	}
	if typed < 900 || right < typed+30 {
		t.Error(typed, right)
	}
}
