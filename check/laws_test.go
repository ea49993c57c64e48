package check_test

import (
	"fmt"
	"reflect"
	"slices"
	"strconv"
	"strings"
	"testing"
	"unsafe"

	"unison/api"
	"unison/catalog"
	"unison/check"
	"unison/pretty"
	"unison/syntax"
	"unison/value"
)

// cell is one of the long row.
type cell struct {
	table, name string
	kind        int
}

// plain goes by the chapter's words: it looks through lists for names, and throws the first fault.
type plain struct {
	params []api.Param
	row    []cell
}

func rowOf(c api.Catalog, tables []int) []cell {
	var row []cell
	for _, place := range tables {
		for _, x := range c.Tables[place].Columns {
			row = append(row, cell{c.Tables[place].Name, x.Name, x.Type})
		}
	}
	return row
}

func wrong(there bool, code api.Errno, at int) {
	if there {
		panic(api.Fault{Code: code, At: at})
	}
}

func plainParams(params []api.Param) bool {
	for i, p := range params {
		for _, o := range params[:i] {
			if o.Name == p.Name {
				return false
			}
		}
		if strings.Trim(p.Name, "abcdefghijklmnopqrstuvwxyz0123456789_") != "" || p.Name == "" || p.Name[0] < 'a' || len(p.Name) > 16 || p.Type < 1 || p.Type > 3 {
			return false
		}
	}
	return len(params) <= 8
}

// plainCheck is what a statement is typed as, by the chapter.
func plainCheck(c api.Catalog, params []api.Param, s api.Stmt) (t api.Typed, f api.Fault) {
	defer func() {
		if r := recover(); r != nil {
			t, f = api.Typed{}, r.(api.Fault)
		}
	}()
	wrong(!catalog.Right(c) || !plainParams(params), api.ErrCatalog, 0)
	wrong(!syntax.Right(s), api.ErrTree, 0)
	p := plain{params: params}
	t = api.Typed{Kind: s.Kind, Limit: s.Limit}
	p.tables(c, s, &t)
	p.tests(s, &t)
	switch s.Kind {
	case api.StmtInsert:
		p.row = nil
		p.insert(c.Tables[t.Tables[0]].Columns, s, &t)
	case api.StmtUpdate:
		p.update(s, &t)
	case api.StmtSelect:
		p.selection(s, &t)
	}
	return t, f
}

func (p *plain) tables(c api.Catalog, s api.Stmt, t *api.Typed) {
	find := func(name string) int {
		return slices.IndexFunc(c.Tables, func(t api.Table) bool { return t.Name == name })
	}
	t.Tables = []int{find(s.Table)}
	wrong(t.Tables[0] < 0, api.ErrNone, s.At)
	if s.Join != "" {
		t.Tables = append(t.Tables, find(s.Join))
		wrong(t.Tables[1] < 0, api.ErrNone, s.JoinAt)
		wrong(s.Join == s.Table, api.ErrTwice, s.JoinAt)
	}
	p.row = rowOf(c, t.Tables)
}

func (p *plain) tests(s api.Stmt, t *api.Typed) {
	for _, e := range s.On {
		t.On = append(t.On, p.typed(e, api.Bool))
	}
	for _, e := range s.Where {
		t.Where = append(t.Where, p.typed(e, api.Bool))
	}
}

func (p *plain) insert(columns []api.Column, s api.Stmt, t *api.Typed) {
	wrong(len(s.Items) != len(columns), api.ErrWidth, s.At)
	for i, e := range s.Items {
		t.Items = append(t.Items, p.typed(e, columns[i].Type))
	}
}

func (p *plain) update(s api.Stmt, t *api.Typed) {
	for i, x := range s.Sets {
		place := slices.IndexFunc(p.row, func(c cell) bool { return c.name == x.Name })
		wrong(place < 0, api.ErrNone, x.At)
		for _, o := range s.Sets[:i] {
			wrong(o.Name == x.Name, api.ErrTwice, x.At)
		}
		t.Columns = append(t.Columns, place)
		t.Items = append(t.Items, p.typed(x.Expr, p.row[place].kind))
	}
}

func isOverRows(op int) bool { return api.ExprCount <= op && op <= api.ExprMax }

func (p *plain) selection(s api.Stmt, t *api.Typed) {
	for _, e := range s.Groups {
		place := p.term(e).Num
		wrong(slices.Contains(t.Groups, place), api.ErrTwice, e.At)
		t.Groups = append(t.Groups, place)
	}
	t.Grouped = len(s.Groups) > 0
	for _, e := range s.Items {
		t.Grouped = t.Grouped || isOverRows(e.Kind)
	}
	for _, e := range s.Items {
		x := p.term(e)
		one := isOverRows(e.Kind) || e.Kind == api.ExprColumn && slices.Contains(t.Groups, x.Num)
		wrong(t.Grouped && !one, api.ErrMixed, e.At)
		t.Items = append(t.Items, x)
	}
	if s.Star {
		if len(s.Groups) > 0 {
			wrong(true, api.ErrMixed, s.Groups[0].At)
		}
		wrong(len(p.row) > 16, api.ErrWidth, s.At)
		for i, c := range p.row {
			t.Items = append(t.Items, api.Term{Op: api.ExprColumn, Num: i, Type: c.kind})
		}
	}
	for _, x := range t.Items {
		t.Types = append(t.Types, x.Type)
	}
	for _, x := range s.Sorts {
		wrong(x.Item < 1 || x.Item > len(t.Items), api.ErrNone, x.At)
		t.Sorts = append(t.Sorts, api.Sort{Item: x.Item, Desc: x.Desc})
	}
}

// typed is a term that has a type, or none.
func (p *plain) typed(e api.Expr, kind int) api.Term {
	t := p.term(e)
	wrong(t.Type != 0 && t.Type != kind, api.ErrType, e.At)
	return t
}

func (p *plain) term(e api.Expr) api.Term {
	t := api.Term{Op: e.Kind}
	for _, k := range e.Kids {
		t.Kids = append(t.Kids, p.term(k))
	}
	kids := func(kind int) {
		for i, k := range t.Kids {
			wrong(k.Type != kind && k.Type != 0, api.ErrType, e.Kids[i].At)
		}
		t.Type = kind
	}
	switch e.Kind {
	case api.ExprValue:
		t.Value, t.Type = e.Value, e.Value.Kind
	case api.ExprParam:
		t.Num = slices.IndexFunc(p.params, func(x api.Param) bool { return x.Name == e.Name })
		wrong(t.Num < 0, api.ErrNone, e.At)
		t.Type = p.params[t.Num].Type
	case api.ExprColumn:
		t.Num = p.column(e)
		t.Type = p.row[t.Num].kind
	case api.ExprNeg, api.ExprArith, api.ExprSum:
		t.Num = e.Op
		kids(api.Int)
	case api.ExprNot, api.ExprAnd, api.ExprOr:
		kids(api.Bool)
	case api.ExprCompare:
		a, b := t.Kids[0].Type, t.Kids[1].Type
		wrong(a != b && a != 0 && b != 0, api.ErrType, e.At)
		t.Num, t.Type = e.Op, api.Bool
	case api.ExprNull:
		t.Num, t.Type = e.Op, api.Bool
	case api.ExprCount:
		t.Type = api.Int
	case api.ExprMin, api.ExprMax:
		t.Type = t.Kids[0].Type
	}
	return t
}

func (p *plain) column(e api.Expr) int {
	var places []int
	for i, c := range p.row {
		if c.name == e.Name && (e.Table == "" || e.Table == c.table) {
			places = append(places, i)
		}
	}
	wrong(len(places) == 0, api.ErrNone, e.At)
	wrong(len(places) > 1, api.ErrTwice, e.At)
	return places[0]
}

// plainRight goes through the parts of a typed statement: which of them are what statements come to.
func plainRight(c api.Catalog, params []api.Param, t api.Typed) bool {
	if !catalog.Right(c) || !plainParams(params) || len(t.Tables) < 1 || len(t.Tables) > 2 {
		return false
	}
	for _, place := range t.Tables {
		if place < 0 || place >= len(c.Tables) {
			return false
		}
	}
	if len(t.Tables) == 2 && (t.Kind != api.StmtSelect || t.Tables[0] == t.Tables[1]) || len(t.On) != len(t.Tables)-1 || len(t.Where) > 1 {
		return false
	}
	p := plain{params: params, row: rowOf(c, t.Tables)}
	for _, x := range slices.Concat(t.On, t.Where) {
		if !p.right(x, 16) || x.Type != 0 && x.Type != api.Bool {
			return false
		}
	}
	if t.Kind != api.StmtSelect && (t.Grouped || len(t.Groups)+len(t.Sorts)+len(t.Limit)+len(t.Types) > 0) || t.Kind != api.StmtUpdate && len(t.Columns) > 0 {
		return false
	}
	switch t.Kind {
	case api.StmtInsert:
		p.row = nil
		return len(t.Where) == 0 && p.rightItems(t.Items, c.Tables[t.Tables[0]].Columns)
	case api.StmtUpdate:
		return p.rightUpdate(t, c.Tables[t.Tables[0]].Columns)
	case api.StmtDelete:
		return len(t.Items) == 0
	case api.StmtSelect:
		return p.rightSelection(t)
	}
	return false
}

func (p *plain) rightItems(l []api.Term, columns []api.Column) bool {
	for i, x := range l {
		if i >= len(columns) || !p.right(x, 16) || x.Type != 0 && x.Type != columns[i].Type {
			return false
		}
	}
	return len(l) == len(columns)
}

func (p *plain) rightUpdate(t api.Typed, columns []api.Column) bool {
	var set []api.Column
	for i, place := range t.Columns {
		if place < 0 || place >= len(columns) || slices.Contains(t.Columns[:i], place) {
			return false
		}
		set = append(set, columns[place])
	}
	return len(set) > 0 && p.rightItems(t.Items, set)
}

func (p *plain) rightSelection(t api.Typed) bool {
	for i, place := range t.Groups {
		if place < 0 || place >= len(p.row) || slices.Contains(t.Groups[:i], place) {
			return false
		}
	}
	grouped, mixed, star := len(t.Groups) > 0, false, len(t.Items) == len(p.row)
	var types []int
	for i, x := range t.Items {
		item := x
		if isOverRows(x.Op) {
			if item = (api.Term{Op: api.ExprValue}); x.Op == api.ExprCount && (len(x.Kids) > 0 || x.Type != api.Int) {
				return false
			} else if x.Op != api.ExprCount {
				if len(x.Kids) != 1 || x.Type != x.Kids[0].Type && (x.Op != api.ExprSum || x.Type != api.Int || x.Kids[0].Type != 0) || x.Op == api.ExprSum && x.Type != api.Int {
					return false
				}
				item = api.Term{Op: api.ExprNull, Type: api.Bool, Kids: x.Kids}
			}
			if x.Num != 0 || x.Value != (api.Value{}) {
				return false
			}
			grouped = true
		} else {
			mixed = mixed || x.Op != api.ExprColumn || !slices.Contains(t.Groups, x.Num)
		}
		if !p.right(item, 16) {
			return false
		}
		star = star && x.Op == api.ExprColumn && x.Num == i
		types = append(types, x.Type)
	}
	for _, x := range t.Sorts {
		if x.Item < 1 || x.Item > len(t.Items) || x.At != 0 {
			return false
		}
	}
	for _, n := range t.Limit {
		if n < 0 || n > 1<<62 {
			return false
		}
	}
	few := 1 <= len(t.Items) && len(t.Items) <= 8 || star && !grouped && len(t.Items) <= 16
	return few && len(t.Groups) <= 8 && len(t.Sorts) <= 8 && len(t.Limit) <= 1 && t.Grouped == grouped && !(grouped && mixed) && slices.Equal(types, t.Types)
}

// right tells whether a term is what an expression comes to that stands anywhere.
func (p *plain) right(t api.Term, depth int) bool {
	if depth == 0 {
		return false
	}
	for _, k := range t.Kids {
		if !p.right(k, depth-1) {
			return false
		}
	}
	all := func(kind int) bool {
		return !slices.ContainsFunc(t.Kids, func(k api.Term) bool { return k.Type != kind && k.Type != 0 })
	}
	if t.Op != api.ExprValue && t.Value != (api.Value{}) {
		return false
	}
	n := len(t.Kids)
	switch t.Op {
	case api.ExprValue:
		return n == 0 && t.Num == 0 && value.Right(t.Value) && t.Value.Int >= 0 && t.Type == t.Value.Kind
	case api.ExprParam:
		return n == 0 && 0 <= t.Num && t.Num < len(p.params) && t.Type == p.params[t.Num].Type
	case api.ExprColumn:
		return n == 0 && 0 <= t.Num && t.Num < len(p.row) && t.Type == p.row[t.Num].kind
	case api.ExprNeg:
		return n == 1 && t.Num == 0 && t.Type == api.Int && all(api.Int)
	case api.ExprArith:
		return n == 2 && 1 <= t.Num && t.Num <= 5 && t.Type == api.Int && all(api.Int)
	case api.ExprCompare:
		return n == 2 && 1 <= t.Num && t.Num <= 6 && t.Type == api.Bool && (all(t.Kids[0].Type) || all(t.Kids[1].Type))
	case api.ExprNull:
		return n == 1 && (t.Num == 0 || t.Num == 1) && t.Type == api.Bool
	case api.ExprNot:
		return n == 1 && t.Num == 0 && t.Type == api.Bool && all(api.Bool)
	case api.ExprAnd, api.ExprOr:
		return 2 <= n && n <= 8 && t.Num == 0 && t.Type == api.Bool && all(api.Bool)
	}
	return false
}

// dice are numbers that look thrown, and are always the same.
type dice uint64

func (d *dice) below(n int) int {
	*d = *d*6364136223846793005 + 1442695040888963407
	return int(*d>>33) % n
}

// one in so many times it is true.
func (d *dice) oneIn(n int) bool { return d.below(n) == 0 }

// world throws a catalog, parameters, and statements over them, in which not much is wrong. All places differ.
type world struct {
	dice
	catalog api.Catalog
	params  []api.Param
	scope   []api.Table
	slips   int
	places  int
}

func (w *world) place() int {
	w.places++
	return w.places*7 - 50
}

// slip tells whether something is to be wrong.
func (w *world) slip() bool { return w.slips > 0 && w.oneIn(w.slips) }

func newWorld(seed int) *world {
	w := &world{dice: dice(seed)}
	w.slips = []int{0, 10, 30, 100}[w.below(4)]
	for i := range 1 + w.below(4) {
		w.catalog.Tables = append(w.catalog.Tables, w.table([]string{"t", "u", "a", "p"}[i]))
	}
	for i := range w.below(6) {
		w.params = append(w.params, api.Param{Name: []string{"p", "q", "a", "t", "z_9"}[i], Type: 1 + w.below(3)})
	}
	return w
}

func (w *world) table(name string) api.Table {
	t := api.Table{Name: name, Key: []int{0}}
	n := 1 + w.below(6)
	if w.oneIn(4) {
		n = 7 + w.below(10)
	}
	from := w.below(4)
	for i := range n {
		t.Columns = append(t.Columns, api.Column{Name: string(rune('a' + (from+i)%26)), Type: 1 + w.below(3), NotNull: i == 0})
	}
	return t
}

// column is one of a type, if there is one.
func (w *world) column(kind int) (api.Expr, bool) {
	var l []api.Expr
	for _, t := range w.scope {
		for _, c := range t.Columns {
			if c.Type == kind {
				l = append(l, api.Expr{Kind: api.ExprColumn, Table: t.Name, Name: c.Name, At: w.place()})
			}
		}
	}
	if len(l) == 0 {
		return api.Expr{}, false
	}
	e := l[w.below(len(l))]
	if len(w.scope) == 1 && w.oneIn(2) || w.unlike(e.Name) && w.oneIn(2) || w.slip() {
		e.Table = ""
	}
	if w.slip() {
		e.Table = []string{"t", "u", "z"}[w.below(3)]
	}
	return e, true
}

// unlike tells whether not two columns have a name.
func (w *world) unlike(name string) bool {
	n := 0
	for _, t := range w.scope {
		for _, c := range t.Columns {
			if c.Name == name {
				n++
			}
		}
	}
	return n == 1
}

// leaf is an expression without Kids, of a type or none.
func (w *world) leaf(kind int) api.Expr {
	if w.slip() {
		return api.Expr{Kind: 2 + w.below(2), Name: []string{"z", "y", "p"}[w.below(3)], At: w.place()}
	}
	if e, ok := w.column(kind); ok && !w.oneIn(3) {
		return e
	}
	if i := slices.IndexFunc(w.params, func(p api.Param) bool { return p.Type == kind }); i >= 0 && w.oneIn(2) {
		return api.Expr{Kind: api.ExprParam, Name: w.params[i].Name, At: w.place()}
	}
	v := []api.Value{{}, {Kind: api.Int, Int: w.below(3)}, {Kind: api.Bool, Int: w.below(2)}, {Kind: api.Text, Text: strings.Repeat("x", w.below(3))}}[kind]
	if w.oneIn(8) {
		v = api.Value{}
	}
	return api.Expr{Kind: api.ExprValue, Value: v, At: w.place()}
}

func (w *world) expr(depth, kind int) api.Expr {
	if w.slip() {
		kind = 1 + w.below(3)
	}
	if depth <= 1 || kind == api.Text || w.oneIn(4) {
		return w.leaf(kind)
	}
	e := api.Expr{At: w.place()}
	kids := func(of, n int, kinds ...int) {
		e.Kind = kinds[w.below(len(kinds))]
		for range n {
			e.Kids = append(e.Kids, w.expr(depth-1-w.below(2), of))
		}
	}
	switch {
	case kind == api.Int && w.oneIn(3):
		kids(api.Int, 1, api.ExprNeg)
	case kind == api.Int:
		e.Op = 1 + w.below(5)
		kids(api.Int, 2, api.ExprArith)
	case w.oneIn(4):
		e.Op = w.below(2)
		kids(1+w.below(3), 1, api.ExprNull)
	case w.oneIn(3):
		e.Op = 1 + w.below(6)
		kids(1+w.below(3), 2, api.ExprCompare)
	case w.oneIn(3):
		kids(api.Bool, 1, api.ExprNot)
	default:
		kids(api.Bool, 2+w.below(3), api.ExprAnd, api.ExprOr)
	}
	return e
}

// thrown is a right statement, most of which has a meaning.
func (w *world) thrown() api.Stmt {
	all := w.catalog.Tables
	first := w.below(len(all))
	s := api.Stmt{Kind: 1 + w.below(4), Table: all[first].Name, At: w.place()}
	if w.oneIn(2) {
		s.Kind = api.StmtSelect
	}
	depth := 1 + w.below(5)
	w.scope = all[first : first+1]
	switch s.Kind {
	case api.StmtInsert:
		w.insertion(&s, depth)
		return s
	case api.StmtUpdate:
		w.sets(&s, depth)
	case api.StmtSelect:
		if w.oneIn(2) && len(all) > 1 {
			second := (first + 1 + w.below(len(all)-1)) % len(all)
			w.scope = []api.Table{all[first], all[second]}
			s.Join, s.JoinAt, s.On = all[second].Name, w.place(), []api.Expr{w.expr(depth, api.Bool)}
		}
		w.selection(&s, depth)
	}
	if w.oneIn(2) {
		s.Where = []api.Expr{w.expr(depth, api.Bool)}
	}
	if w.slip() {
		s.Table = []string{"z", "t", "u"}[w.below(3)]
	}
	if w.slip() && s.Join != "" {
		s.Join = []string{"z", "t", "u"}[w.below(3)]
	}
	return s
}

func (w *world) insertion(s *api.Stmt, depth int) {
	columns := w.scope[0].Columns
	if !w.slip() {
		w.scope = nil
	}
	for _, c := range columns {
		s.Items = append(s.Items, w.expr(depth, c.Type))
	}
	if w.slip() {
		s.Items = s.Items[:1+w.below(len(s.Items))]
	}
	if w.slip() {
		s.Table = w.catalog.Tables[w.below(len(w.catalog.Tables))].Name
	}
}

func (w *world) sets(s *api.Stmt, depth int) {
	columns := w.scope[0].Columns
	from := w.below(len(columns))
	for i := range 1 + w.below(len(columns)) {
		c := columns[(from+i)%len(columns)]
		if w.slip() {
			c = columns[w.below(len(columns))]
		}
		if w.slip() {
			c.Name = "zz"
		}
		s.Sets = append(s.Sets, api.Set{Name: c.Name, Expr: w.expr(depth, c.Type), At: w.place()})
	}
}

func (w *world) item(depth int) api.Expr {
	kind := api.ExprCount + w.below(4)
	e := api.Expr{Kind: kind, At: w.place()}
	if kind == api.ExprSum {
		e.Kids = []api.Expr{w.expr(depth-1, api.Int)}
	} else if kind != api.ExprCount {
		e.Kids = []api.Expr{w.expr(depth-1, 1+w.below(3))}
	}
	return e
}

func (w *world) selection(s *api.Stmt, depth int) {
	grouped := w.oneIn(2)
	s.Star = w.oneIn(4) && (!grouped || w.slip())
	for range w.below(4) {
		if e, ok := w.column(1 + w.below(3)); grouped && ok && (w.slip() || !slices.ContainsFunc(s.Groups, func(o api.Expr) bool { return o.Name == e.Name })) {
			s.Groups = append(s.Groups, e)
		}
	}
	count := 1 + w.below(4)
	if w.oneIn(8) {
		count = 8
	}
	for range count {
		switch {
		case s.Star:
		case !grouped || w.slip():
			s.Items = append(s.Items, w.expr(depth, 1+w.below(3)))
		case len(s.Groups) > 0 && w.oneIn(2):
			e := s.Groups[w.below(len(s.Groups))]
			e.At = w.place()
			s.Items = append(s.Items, e)
		default:
			s.Items = append(s.Items, w.item(depth))
		}
	}
	most := len(s.Items)
	if s.Star {
		most = 1
	}
	for range w.below(4) {
		n := 1 + w.below(most)
		if w.slip() {
			n = w.below(18)
		}
		s.Sorts = append(s.Sorts, api.Sort{Item: n, Desc: w.oneIn(2), At: w.place()})
	}
	if w.oneIn(3) {
		s.Limit = []int{w.below(1000)}
	}
}

// sound holds all that is promised of a statement against what is told of it, and tells that.
func sound(t *testing.T, c api.Catalog, params []api.Param, s api.Stmt) (api.Typed, api.Fault) {
	t.Helper()
	got, f := check.Check(c, params, s)
	want, g := plainCheck(c, params, s)
	if f != g || told(got) != told(want) {
		t.Fatalf("with %+v and %+v: Check(%+v) = %s, %v; want %s, %v", c, params, s, told(got), f, told(want), g)
	}
	if f == (api.Fault{}) && !check.Right(c, params, got) {
		t.Fatalf("with %+v and %+v: %s is not right", c, params, told(got))
	}
	return got, f
}

func TestP131P132ThrownStatements(t *testing.T) {
	met := map[api.Errno]int{}
	kinds := map[int]int{}
	for i := range 40000 {
		w := newWorld(i)
		s := w.thrown()
		if !catalog.Right(w.catalog) || !syntax.Right(s) {
			t.Fatalf("%+v or %+v is not right", w.catalog, s)
		}
		got, f := sound(t, w.catalog, w.params, s)
		met[f.Code]++
		kinds[got.Kind]++
	}
	for code, least := range map[api.Errno]int{api.OK: 10000, api.ErrNone: 2000, api.ErrTwice: 200, api.ErrType: 1000, api.ErrMixed: 100, api.ErrWidth: 100} {
		if met[code] < least {
			t.Errorf("%v: %d times alone", code, met[code])
		}
	}
	for kind := 1; kind <= 4; kind++ {
		if kinds[kind] < 1000 {
			t.Errorf("kind %d: %d times alone", kind, kinds[kind])
		}
	}
}

// exprs are all expressions of at most a depth over some leaves, each with a place of its own.
func exprs(depth int, leaves []api.Expr) []api.Expr {
	l := slices.Clone(leaves)
	if depth > 1 {
		kids := exprs(depth-1, leaves)
		for _, a := range kids {
			for _, kind := range []int{api.ExprNeg, api.ExprNot, api.ExprNull} {
				l = append(l, api.Expr{Kind: kind, Kids: []api.Expr{a}})
			}
			l = append(l, api.Expr{Kind: api.ExprNull, Op: 1, Kids: []api.Expr{a}})
			for _, b := range kids {
				for _, e := range []api.Expr{{Kind: api.ExprArith, Op: 3}, {Kind: api.ExprCompare, Op: 2}, {Kind: api.ExprAnd}, {Kind: api.ExprOr}} {
					e.Kids = []api.Expr{a, b}
					l = append(l, e)
				}
			}
		}
	}
	return l
}

// numbered gives all parts of an expression places of their own.
func numbered(e api.Expr, next *int) api.Expr {
	*next++
	e.At = *next
	e.Kids = slices.Clone(e.Kids)
	for i, k := range e.Kids {
		e.Kids[i] = numbered(k, next)
	}
	return e
}

func leaves() []api.Expr {
	return []api.Expr{{Kind: api.ExprColumn, Name: "a"}, {Kind: api.ExprColumn, Name: "b"}, {Kind: api.ExprParam, Name: "q"}, {Kind: api.ExprValue}, {Kind: api.ExprColumn, Name: "z"}}
}

func TestP131AllSmallExpressions(t *testing.T) {
	l := exprs(3, leaves()[1:])
	l = append(l, exprs(2, leaves())...)
	if len(l) < 20000 {
		t.Fatal(len(l))
	}
	for i, e := range l {
		next := 0
		e = numbered(e, &next)
		s := api.Stmt{Kind: api.StmtSelect, Table: "t", Items: []api.Expr{e}, At: -1}
		switch i % 4 {
		case 1:
			s = api.Stmt{Kind: api.StmtDelete, Table: "t", Where: []api.Expr{e}}
		case 2:
			s = api.Stmt{Kind: api.StmtUpdate, Table: "t", Sets: []api.Set{{Name: "a", Expr: e}}}
		case 3:
			s.Items = []api.Expr{{Kind: api.ExprSum + i/4%3, Kids: []api.Expr{e}, At: -2}}
		}
		sound(t, defined(), given(), s)
	}
}

// Of all terms of a small world just those are right that expressions come to.
func TestP132AllSmallTerms(t *testing.T) {
	c := api.Catalog{Tables: []api.Table{{Name: "t", Columns: []api.Column{{Name: "a", Type: api.Int, NotNull: true}, {Name: "b", Type: api.Bool}}, Key: []int{0}}}}
	params := []api.Param{{Name: "p", Type: api.Text}}
	values := []api.Value{{}, {Kind: api.Int, Int: 1}, {Kind: api.Bool, Int: 1}}
	small := []api.Expr{{Kind: api.ExprColumn, Name: "a"}, {Kind: api.ExprColumn, Name: "b"}, {Kind: api.ExprParam, Name: "p"}}
	for _, v := range values {
		small = append(small, api.Expr{Kind: api.ExprValue, Value: v})
	}
	tests, items, kids := map[string]bool{}, map[string]bool{}, []api.Term{{}, {Op: api.ExprColumn}, {Op: api.ExprCount, Type: api.Int}}
	ask := func(e api.Expr) {
		for _, stmt := range []api.Stmt{{Kind: api.StmtDelete, Table: "t", Where: []api.Expr{e}}, {Kind: api.StmtSelect, Table: "t", Items: []api.Expr{e}}} {
			if got, f := check.Check(c, params, stmt); f == (api.Fault{}) && stmt.Kind == api.StmtDelete {
				tests[terms(got.Where)] = true
			} else if f == (api.Fault{}) {
				items[terms(got.Items)] = true
				if len(e.Kids) == 0 && e.Kind != api.ExprCount {
					kids = append(kids, got.Items[0])
				}
			}
		}
	}
	for _, a := range small {
		ask(a)
	}
	all := slices.Clone(kids)
	for kind := range 16 {
		ask(api.Expr{Kind: kind})
		for op := range 8 {
			for _, a := range small {
				ask(api.Expr{Kind: kind, Op: op, Kids: []api.Expr{a}})
				for _, b := range small {
					ask(api.Expr{Kind: kind, Op: op, Kids: []api.Expr{a, b}})
				}
			}
		}
	}
	lists := [][]api.Term{nil}
	for _, a := range all {
		lists = append(lists, []api.Term{a})
		for _, b := range all {
			lists = append(lists, []api.Term{a, b})
		}
	}
	right := 0
	for op := -1; op < 16; op++ {
		for num := -1; num < 8; num++ {
			for kind := range 4 {
				for _, v := range values {
					for _, l := range lists {
						x := api.Term{Op: op, Num: num, Type: kind, Value: v, Kids: l}
						test := api.Typed{Kind: api.StmtDelete, Tables: []int{0}, Where: []api.Term{x}}
						item := api.Typed{Kind: api.StmtSelect, Tables: []int{0}, Items: []api.Term{x}, Types: []int{kind}, Grouped: op >= api.ExprCount}
						s := terms([]api.Term{x})
						if got := check.Right(c, params, test); got != tests[s] {
							t.Fatalf("Right(%s) = %v", told(test), got)
						}
						if got := check.Right(c, params, item); got != items[s] {
							t.Fatalf("Right(%s) = %v", told(item), got)
						} else if got {
							right++
						}
					}
				}
			}
		}
	}
	if right != len(items) || right < 200 || len(tests) < 150 {
		t.Error(right, len(items), len(tests))
	}
}

// part is a field, or an element of a list, of something, with the name of the field that has it.
type part struct {
	reflect.Value
	name string
}

// partsOf are all parts of what a pointer points to.
func partsOf(x any) []part {
	var l []part
	var walk func(v reflect.Value, name string)
	walk = func(v reflect.Value, name string) {
		l = append(l, part{v, name})
		switch v.Kind() {
		case reflect.Struct:
			for i := range v.NumField() {
				walk(v.Field(i), v.Type().Field(i).Name)
			}
		case reflect.Slice:
			for i := range v.Len() {
				walk(v.Index(i), name)
			}
		}
	}
	walk(reflect.ValueOf(x).Elem(), "")
	return l
}

// others are values that a part might have instead.
func others(p part) []reflect.Value {
	var l []reflect.Value
	switch p.Kind() {
	case reflect.Int:
		for _, n := range []int{0, 1, 2, 3, 4, 5, 6, 7, 11, 12, 14, 15, -1, 16, 1 << 62, 1<<62 + 1} {
			l = append(l, reflect.ValueOf(n).Convert(p.Type()))
		}
	case reflect.String:
		for _, s := range []string{"", "a", "b", "z", "t", "A", "a b", "abcdefghijklmnopq", strings.Repeat("x", 65)} {
			l = append(l, reflect.ValueOf(s))
		}
	case reflect.Bool:
		l = append(l, reflect.ValueOf(!p.Bool()))
	case reflect.Slice:
		l = append(l, reflect.Zero(p.Type()), reflect.MakeSlice(p.Type(), 1, 1))
		if p.Len() > 0 {
			l = append(l, reflect.AppendSlice(p.Slice3(0, p.Len(), p.Len()), p.Value), p.Slice(1, p.Len()), p.Slice(0, p.Len()-1))
		}
		if p.Len() > 1 {
			turned := reflect.AppendSlice(reflect.MakeSlice(p.Type(), 0, 0), p.Slice(1, p.Len()))
			l = append(l, reflect.Append(turned, p.Index(0)))
		}
	}
	return l
}

// eachChange changes each part of what a pointer points to, one at a time, and asks each time.
func eachChange(x any, ask func(name string)) {
	for _, p := range partsOf(x) {
		was := reflect.New(p.Type()).Elem()
		was.Set(p.Value)
		for _, o := range others(p) {
			p.Set(o)
			ask(p.name)
			p.Set(was)
		}
	}
}

func TestP131ChangedStatements(t *testing.T) {
	met := map[api.Errno]int{}
	for i := range 150 {
		w := newWorld(i)
		s := w.thrown()
		if len(fmt.Sprint(s)) > 800 {
			continue
		}
		eachChange(&s, func(string) {
			_, f := sound(t, w.catalog, w.params, s)
			met[f.Code]++
		})
	}
	if met[api.OK] < 5000 || met[api.ErrTree] < 5000 || met[api.ErrNone] < 1000 || met[api.ErrType] < 300 {
		t.Error(met)
	}
}

// The catalog and the parameters are changed: what is asked of a statement hangs on them.
func TestP131ChangedCatalogs(t *testing.T) {
	met := map[api.Errno]int{}
	for i := range 300 {
		w := newWorld(i)
		s := w.thrown()
		ask := func(string) {
			_, f := sound(t, w.catalog, w.params, s)
			met[f.Code]++
		}
		eachChange(&w.catalog, ask)
		eachChange(&w.params, ask)
	}
	if met[api.OK] < 5000 || met[api.ErrCatalog] < 5000 || met[api.ErrNone] < 1000 || met[api.ErrType] < 300 {
		t.Error(met)
	}
}

// Each part of right typed statements is changed, and of what is right then once more.
func TestP132ChangedTyped(t *testing.T) {
	right, wrong := 0, 0
	for i := range 200 {
		w := newWorld(i)
		x, f := check.Check(w.catalog, w.params, w.thrown())
		if f != (api.Fault{}) || len(told(x)) > 300 {
			continue
		}
		ask := func(string) {
			want := plainRight(w.catalog, w.params, x)
			if got := check.Right(w.catalog, w.params, x); got != want {
				t.Fatalf("with %+v and %+v: Right(%s) = %v", w.catalog, w.params, told(x), got)
			}
			if want {
				right++
			} else {
				wrong++
			}
		}
		eachChange(&x, func(string) {
			ask("")
			if w.oneIn(500) {
				eachChange(&x, ask)
			}
		})
		eachChange(&w.catalog, ask)
		eachChange(&w.params, ask)
	}
	if right < 20000 || wrong < 100000 {
		t.Error(right, wrong)
	}
}

// Of two changes of one thing, such as an item and its type, many leave what is right.
func TestP132TypedOfOthers(t *testing.T) {
	right := 0
	for i := range 3000 {
		w := newWorld(i)
		s := w.thrown()
		x, f := check.Check(w.catalog, w.params, s)
		y, g := check.Check(w.catalog, w.params, w.thrown())
		if f != (api.Fault{}) || g != (api.Fault{}) {
			continue
		}
		a, b := reflect.ValueOf(&x).Elem(), reflect.ValueOf(y)
		for range 20 {
			was := x
			for n := range a.NumField() {
				if w.oneIn(3) {
					a.Field(n).Set(b.Field(n))
				}
			}
			want := plainRight(w.catalog, w.params, x)
			if got := check.Right(w.catalog, w.params, x); got != want {
				t.Fatalf("with %+v and %+v: Right(%s) = %v", w.catalog, w.params, told(x), got)
			}
			if want {
				right++
			}
			x = was
		}
	}
	if right < 500 {
		t.Error(right)
	}
}

// shifted gives all places of a statement another number.
func shifted(s *api.Stmt, other func(int) int) {
	for _, p := range partsOf(s) {
		if p.name == "At" || p.name == "JoinAt" {
			p.SetInt(int64(other(int(p.Int()))))
		}
	}
}

func TestP133Places(t *testing.T) {
	for i := range 5000 {
		w := newWorld(i)
		s := w.thrown()
		want, f := check.Check(w.catalog, w.params, s)
		shifted(&s, func(at int) int { return -3*at - 1<<60 })
		got, g := check.Check(w.catalog, w.params, s)
		if f.Code != api.OK {
			f.At = -3*f.At - 1<<60
		}
		if told(got) != told(want) || g != f {
			t.Fatalf("%s, %v; at other places %s, %v", told(want), f, told(got), g)
		}
		shifted(&s, func(int) int { return 0 })
		if got, g = check.Check(w.catalog, w.params, s); told(got) != told(want) || g != (api.Fault{Code: f.Code}) {
			t.Fatalf("%s, %v; at no places %s, %v", told(want), f, told(got), g)
		}
	}
}

func TestP133OneForm(t *testing.T) {
	printed := 0
	for i := range 10000 {
		w := newWorld(i)
		s := w.thrown()
		text, e := pretty.Print(s)
		if e != api.OK {
			continue
		}
		printed++
		form, f := syntax.Parse(text)
		if f != (api.Fault{}) {
			t.Fatal(text, f)
		}
		want, f := check.Check(w.catalog, w.params, s)
		got, g := check.Check(w.catalog, w.params, form)
		if told(got) != told(want) || f.Code != g.Code {
			t.Fatalf("%q: %s, %v; want %s, %v", text, told(got), g, told(want), f)
		}
	}
	if printed < 5000 {
		t.Error(printed)
	}
}

func FuzzP131P132(f *testing.F) {
	for i := range 100 {
		text, _ := pretty.Print(newWorld(i).thrown())
		f.Add(text, i)
	}
	f.Fuzz(func(t *testing.T, source string, seed int) {
		w := newWorld(seed)
		sound(t, w.catalog, w.params, w.thrown())
		if s, fault := syntax.Parse(source); fault == (api.Fault{}) {
			sound(t, w.catalog, w.params, s)
			sound(t, defined(), given(), s)
		}
	})
}

// all is what the calls are handed, and what they answer.
type all struct {
	Catalog api.Catalog
	Params  []api.Param
	Stmt    api.Stmt
	Typed   api.Typed
	Fault   api.Fault
	Right   bool
}

func (x *all) ask() {
	x.Typed, x.Fault = check.Check(x.Catalog, x.Params, x.Stmt)
	x.Right = check.Right(x.Catalog, x.Params, x.Typed)
}

func thrownAll(i int) *all {
	w := newWorld(i)
	s := w.thrown()
	return &all{Catalog: w.catalog, Params: w.params, Stmt: s}
}

// Empty lists are as none.
func TestR4EmptyLists(t *testing.T) {
	for i := range 500 {
		x := thrownAll(i)
		x.ask()
		want := fmt.Sprint(told(x.Typed), x.Fault, x.Right)
		for _, p := range partsOf(x) {
			if p.Kind() == reflect.Slice && p.Len() == 0 {
				p.Set(reflect.MakeSlice(p.Type(), 0, 3))
			}
		}
		right := check.Right(x.Catalog, x.Params, x.Typed)
		if x.ask(); fmt.Sprint(told(x.Typed), x.Fault, right) != want {
			t.Fatalf("%s; with empty lists %s, %v, %v", want, told(x.Typed), x.Fault, right)
		}
	}
}

// room is the memory of a list, its spare one too, or of a text.
type room struct {
	from, to uintptr
	name     string
}

func roomsOf(x any) []room {
	var l []room
	for _, p := range partsOf(x) {
		switch p.Kind() {
		case reflect.Slice:
			from := p.Pointer()
			l = append(l, room{from, from + uintptr(p.Cap())*p.Type().Elem().Size(), p.name})
		case reflect.String:
			s := p.String()
			from := uintptr(unsafe.Pointer(unsafe.StringData(s)))
			l = append(l, room{from, from + uintptr(len(s)), p.name})
		}
	}
	return slices.DeleteFunc(l, func(r room) bool { return r.from == r.to })
}

func apart(t *testing.T, a, b []room) {
	t.Helper()
	for i, x := range a {
		for j, y := range b {
			if x.from < y.to && y.from < x.to && !(len(a) == len(b) && &a[0] == &b[0] && i == j) {
				t.Fatalf("%s and %s share memory", x.name, y.name)
			}
		}
	}
}

func TestR5AnswersAreNew(t *testing.T) {
	answers := 0
	for i := range 1000 {
		x := thrownAll(i)
		x.ask()
		first := x.Typed
		x.ask()
		given := slices.Concat(roomsOf(&x.Catalog), roomsOf(&x.Params), roomsOf(&x.Stmt))
		told := roomsOf(&x.Typed)
		answers += len(told)
		apart(t, told, given)
		apart(t, told, told)
		apart(t, told, roomsOf(&first))
	}
	if answers < 3000 {
		t.Error(answers)
	}
}

// What is handed in stays as it is, its spare room too.
func TestR5ArgumentsStay(t *testing.T) {
	for i := range 500 {
		x := thrownAll(i)
		typed, _ := check.Check(x.Catalog, x.Params, x.Stmt)
		x.Typed = typed
		for _, p := range partsOf(x) {
			if p.Kind() == reflect.Slice {
				roomy := reflect.MakeSlice(p.Type(), p.Len(), p.Len()+3)
				reflect.Copy(roomy, p.Value)
				p.Set(roomy)
			}
		}
		before := whole(x)
		check.Check(x.Catalog, x.Params, x.Stmt)
		check.Right(x.Catalog, x.Params, x.Typed)
		if after := whole(x); after != before {
			t.Fatalf("%s; then %s", before, after)
		}
	}
}

// whole is all of something, with the spare room of its lists.
func whole(x *all) string {
	out := fmt.Sprintf("%+v", *x)
	for _, p := range partsOf(x) {
		if p.Kind() == reflect.Slice {
			out += fmt.Sprintf("|%+v", p.Slice3(p.Len(), p.Cap(), p.Cap()).Slice(0, p.Cap()-p.Len()).Interface())
		}
	}
	return out
}

func TestR6TheSameAgain(t *testing.T) {
	for i := range 500 {
		x, y := thrownAll(i), thrownAll(i+1)
		x.ask()
		want := whole(x)
		y.ask()
		check.Check(y.Catalog, x.Params, x.Stmt)
		if x.ask(); whole(x) != want {
			t.Fatalf("%s; then %s", want, whole(x))
		}
	}
}

// With a fault nothing else is told.
func TestR3NothingBesideAFault(t *testing.T) {
	faults := 0
	for i := range 3000 {
		x := thrownAll(i)
		if x.ask(); x.Fault != (api.Fault{}) {
			faults++
			if told(x.Typed) != "kind 0" || x.Right {
				t.Fatalf("%v, and yet %s, %s", x.Fault, told(x.Typed), strconv.FormatBool(x.Right))
			}
		}
	}
	if faults < 500 {
		t.Error(faults)
	}
}
