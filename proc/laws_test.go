package proc_test

import (
	"fmt"
	"math"
	"reflect"
	"slices"
	"strconv"
	"strings"
	"testing"
	"unsafe"

	"unison/api"
	"unison/check"
	"unison/denote"
	"unison/exec"
	"unison/plan"
	"unison/proc"
	"unison/row"
	"unison/syntax"
	"unison/table"
	"unison/value"
)

// dice are numbers that look thrown, and are always the same.
type dice uint64

func (d *dice) below(n int) int {
	*d = *d*6364136223846793005 + 1442695040888963407
	return int(*d>>33) % n
}

// one in so many times it is true.
func (d *dice) oneIn(n int) bool { return d.below(n) == 0 }

func pick[T any](d *dice, l ...T) T { return l[d.below(len(l))] }

// world throws a catalog with procedures, a state, and calls.
type world struct {
	dice
	parts   int
	catalog api.Catalog
	state   api.State
	params  []api.Param
	scope   []api.Column
}

func newWorld(seed int) *world {
	w := &world{dice: dice(seed)}
	w.below(2)
	w.parts = 1 + w.below(w.below(16)+1)
	for i := range 1 + w.below(2) {
		w.catalog.Tables = append(w.catalog.Tables, w.table([]string{"t", "u"}[i]))
	}
	w.state = denote.Empty(w.catalog)
	for i := range w.catalog.Tables {
		w.fill(i, w.below(9))
	}
	for i := range 1 + w.below(3) {
		w.catalog.Procs = append(w.catalog.Procs, w.proc([]string{"p", "q", "r"}[i]))
	}
	return w
}

func (w *world) table(name string) api.Table {
	t := api.Table{Name: name}
	n := 1 + w.below(4)
	for i := range n {
		t.Columns = append(t.Columns, api.Column{Name: name + string(rune('a'+i)), Type: pick(&w.dice, 1, 1, 2, 3), NotNull: w.oneIn(4)})
	}
	t.Key = w.places(n, 1+w.below(2))
	for _, place := range t.Key {
		t.Columns[place].NotNull = true
	}
	t.Part = pick(&w.dice, t.Key...)
	for i := range w.below(4) {
		t.Indexes = append(t.Indexes, api.Index{Name: "i" + strconv.Itoa(i), Columns: w.places(n, 1+w.below(2)), Unique: w.oneIn(4)})
	}
	return t
}

// places are at most so many of n, in any order.
func (w *world) places(n, most int) []int {
	var l []int
	for range most {
		if p := w.below(n); !slices.Contains(l, p) {
			l = append(l, p)
		}
	}
	return l
}

// value is one of a type; one in so many is NULL.
func (w *world) value(kind, nulls int) api.Value {
	if nulls > 0 && w.oneIn(nulls) {
		return api.Value{}
	}
	switch kind {
	case api.Int:
		if w.oneIn(20) {
			return api.Value{Kind: kind, Int: pick(&w.dice, 1<<62, -1<<62, 1<<62-1)}
		}
		return api.Value{Kind: kind, Int: w.below(7) - 1}
	case api.Bool:
		return api.Value{Kind: kind, Int: w.below(2)}
	}
	return api.Value{Kind: kind, Text: pick(&w.dice, "", "a", "b", "it's", "\x00", strings.Repeat("x", 64))}
}

// fill throws rows into a table of the state, and keeps those with which it is right.
func (w *world) fill(place, n int) {
	t := w.catalog.Tables[place]
	for range n {
		var l []api.Value
		for _, c := range t.Columns {
			l = append(l, w.value(c.Type, map[bool]int{false: 3}[c.NotNull]))
		}
		was := w.state.Tables[place]
		w.state.Tables[place] = append(slices.Clone(was), l)
		slices.SortStableFunc(w.state.Tables[place], func(a, b []api.Value) int {
			for _, c := range t.Key {
				if order := value.Order(a[c], b[c]); order != 0 {
					return order
				}
			}
			return 0
		})
		if !denote.Right(w.catalog, w.state) {
			w.state.Tables[place] = was
		}
	}
}

func (w *world) proc(name string) api.Proc {
	p := api.Proc{Name: name, Rows: pick(&w.dice, 0, 2, 6, 20, 999), Bytes: pick(&w.dice, 20, 60, 200, 9999)}
	for i := range w.below(4) {
		p.Params = append(p.Params, api.Param{Name: []string{"x", "y", "z"}[i], Type: 1 + w.below(3)})
	}
	w.params = p.Params
	for range 1 + w.below(4) {
		p.Body = append(p.Body, w.source())
	}
	return p
}

// leaf is a source of a column, a parameter or a literal of a type.
func (w *world) leaf(kind int) string {
	var l []string
	for _, c := range w.scope {
		if c.Type == kind {
			l = append(l, c.Name, c.Name)
		}
	}
	for _, p := range w.params {
		if p.Type == kind {
			l = append(l, ":"+p.Name)
		}
	}
	v := w.value(kind, 12)
	v.Int = max(v.Int, -v.Int)
	s, _ := value.Print(v)
	return pick(&w.dice, append(l, s)...)
}

// expr is a source of an expression of a type.
func (w *world) expr(depth, kind int) string {
	if depth <= 1 || kind == api.Text || w.oneIn(3) {
		return w.leaf(kind)
	}
	kid := func(kind int) string { return w.expr(depth-1, kind) }
	if kind == api.Int {
		return "(" + kid(kind) + pick(&w.dice, " + ", " - ", " * ", " / ", " % ") + kid(kind) + ")"
	}
	switch w.below(6) {
	case 0:
		return "NOT (" + kid(kind) + ")"
	case 1:
		return "(" + kid(1+w.below(3)) + pick(&w.dice, " IS NULL)", " IS NOT NULL)")
	case 2, 3:
		return "(" + kid(kind) + pick(&w.dice, " AND ", " AND ", " OR ") + kid(kind) + ")"
	}
	kind = 1 + w.below(3)
	return "(" + kid(kind) + pick(&w.dice, " = ", " = ", " = ", " <> ", " < ", " <= ", " > ", " >= ") + kid(kind) + ")"
}

// where finds a row by its key, as often as not.
func (w *world) where(t api.Table) string {
	switch w.below(4) {
	case 0:
		return ""
	case 1:
		return " WHERE " + w.expr(3, api.Bool)
	}
	c := t.Columns[t.Key[0]]
	was := w.scope
	w.scope = nil
	s := " WHERE " + c.Name + pick(&w.dice, " = ", " = ", " <= ", " > ") + w.leaf(c.Type)
	w.scope = was
	return s
}

// source is a right one, but for a slip now and then.
func (w *world) source() string {
	t := pick(&w.dice, w.catalog.Tables...)
	w.scope = nil
	if w.oneIn(150) {
		return pick(&w.dice, "SELECT z FROM "+t.Name, "SELECT 1 + TRUE FROM "+t.Name, "DELETE FROM", "SELECT 01 FROM t", "INSERT INTO v VALUES (1)", "DELETE FROM t WHERE ?")
	}
	kind := w.below(6)
	if kind == 0 {
		var l []string
		for _, c := range t.Columns {
			l = append(l, w.expr(2, c.Type))
		}
		return "INSERT INTO " + t.Name + " VALUES (" + strings.Join(l, ", ") + ")"
	}
	w.scope = t.Columns
	switch kind {
	case 1:
		return "DELETE FROM " + t.Name + w.where(t)
	case 2, 3:
		var l []string
		for _, place := range w.places(len(t.Columns), 1+w.below(2)) {
			l = append(l, t.Columns[place].Name+" = "+w.expr(2, t.Columns[place].Type))
		}
		return "UPDATE " + t.Name + " SET " + strings.Join(l, ", ") + w.where(t)
	}
	return w.selection(t)
}

func (w *world) selection(t api.Table) string {
	from := " FROM " + t.Name
	if len(w.catalog.Tables) == 2 && w.oneIn(3) {
		u := w.catalog.Tables[0]
		if u.Name == t.Name {
			u = w.catalog.Tables[1]
		}
		w.scope = slices.Concat(t.Columns, u.Columns)
		from += " JOIN " + u.Name + " ON " + w.expr(2, api.Bool)
	}
	from += w.where(t)
	if w.oneIn(3) {
		return "SELECT COUNT(*), SUM(" + w.expr(2, api.Int) + "), MIN(" + w.expr(2, 1+w.below(3)) + "), MAX(" + w.leaf(1+w.below(3)) + ")" + from
	}
	if w.oneIn(3) {
		c := pick(&w.dice, w.scope...)
		return "SELECT " + c.Name + ", COUNT(*)" + from + " GROUP BY " + c.Name + pick(&w.dice, "", " ORDER BY 2 DESC LIMIT 2")
	}
	return "SELECT " + pick(&w.dice, "*", w.expr(2, 1+w.below(3)), w.expr(2, 1+w.below(3))+", "+w.expr(2, 1+w.below(3))) + from + pick(&w.dice, "", "", " ORDER BY 1", " ORDER BY 1 DESC LIMIT 3", " LIMIT 2")
}

// call is one that is admitted, but for a slip now and then.
func (w *world) call() api.Call {
	p := pick(&w.dice, w.catalog.Procs...)
	c := api.Call{Client: 1 + w.below(64), Seq: 1 + w.below(99), Proc: p.Name}
	for _, x := range p.Params {
		c.Args = append(c.Args, w.value(x.Type, 10))
	}
	if !w.oneIn(8) {
		return c
	}
	switch w.below(6) {
	case 0:
		c.Client = pick(&w.dice, 0, -1, 65, 64, math.MinInt)
	case 1:
		c.Seq = pick(&w.dice, 0, -1, 1<<62, 1<<62+1, math.MaxInt)
	case 2:
		c.Proc = pick(&w.dice, "", "s", "t", "p", "q")
	case 3:
		c.Args = append(c.Args, api.Value{})
	case 4:
		c.Args = c.Args[:len(c.Args)/2]
	default:
		for i := range c.Args {
			c.Args[i] = pick(&w.dice, w.value(1+w.below(3), 0), api.Value{Int: 1}, api.Value{Kind: 4}, api.Value{Kind: api.Text, Text: strings.Repeat("x", 65)})
		}
	}
	return c
}

// plainNew goes through the sources of a catalog by P17.1's words.
func plainNew(c api.Catalog) (typed [][]api.Typed, proc, stmt int, f api.Fault) {
	for i, p := range c.Procs {
		typed = append(typed, nil)
		for k, source := range p.Body {
			s, f := syntax.Parse(source)
			if f != (api.Fault{}) {
				return nil, i, k, f
			}
			x, f := check.Check(c, p.Params, s)
			if f != (api.Fault{}) {
				return nil, i, k, f
			}
			typed[i] = append(typed[i], x)
		}
	}
	return typed, 0, 0, api.Fault{}
}

func plainAdmit(c api.Catalog, x api.Call) (int, api.Errno) {
	if x.Client <= 0 || x.Client > 64 || x.Seq <= 0 || x.Seq > 1<<62 {
		return 0, api.ErrArg
	}
	for i, p := range c.Procs {
		if p.Name != x.Proc {
			continue
		}
		if len(p.Params) != len(x.Args) {
			return 0, api.ErrArgs
		}
		for k, v := range x.Args {
			if _, e := value.Print(v); e != api.OK || v.Kind != 0 && v.Kind != p.Params[k].Type {
				return 0, api.ErrArgs
			}
		}
		return i, api.OK
	}
	return 0, api.ErrProc
}

// plainMean goes through a call by P17.4's words.
func plainMean(c api.Catalog, s api.State, x api.Call) (api.Reply, api.State) {
	i, e := plainAdmit(c, x)
	if e != api.OK {
		return api.Reply{Code: e}, s
	}
	if !denote.Right(c, s) {
		return api.Reply{Code: api.ErrState}, s
	}
	typed, _, _, _ := plainNew(c)
	var l []api.Result
	left := s
	for at, t := range typed[i] {
		r, next, e := denote.Run(c, c.Procs[i].Params, left, t, x.Args...)
		if e != api.OK {
			return api.Reply{Code: e, At: at}, s
		}
		l, left = append(l, r), next
		rows, bytes := 0, ""
		for _, r := range l {
			rows += len(r.Rows) + r.Count
			for _, told := range r.Rows {
				more, _ := row.Encode(told...)
				bytes += more
			}
		}
		if rows > c.Procs[i].Rows || len(bytes) > c.Procs[i].Bytes {
			return api.Reply{Code: api.ErrBudget, At: at}, s
		}
	}
	return api.Reply{Results: l}, left
}

func told(r api.Reply, s api.State) string { return shownReply(r) + " leaves " + shownState(s) }

// thrownBook is the book of a world; nil: a source has a slip, of which New has told.
func thrownBook(t *testing.T, w *world) *proc.Book {
	t.Helper()
	b, i, k, f := proc.New(w.catalog)
	_, wi, wk, wf := plainNew(w.catalog)
	if i != wi || k != wk || f != wf || (b == nil) != (wf != api.Fault{}) {
		t.Fatalf("%+v: %v, %d, %d, %+v; want %d, %d, %+v", w.catalog, b, i, k, f, wi, wk, wf)
	}
	return b
}

func mustMeet(t *testing.T, met map[api.Errno]int, least map[api.Errno]int) {
	t.Helper()
	for code, n := range least {
		if met[code] < n {
			t.Errorf("%v: %d times alone", code, met[code])
		}
	}
}

func TestP171P172Thrown(t *testing.T) {
	met, reads := map[api.Errno]int{}, 0
	for i := range 3000 {
		w := newWorld(i)
		b := thrownBook(t, w)
		typed, _, _, f := plainNew(w.catalog)
		met[f.Code]++
		if b == nil {
			continue
		}
		for i, p := range w.catalog.Procs {
			l, e := b.Plans(p.Name)
			only := true
			for k, x := range typed[i] {
				want, _ := plan.Make(w.catalog, p.Params, x)
				only = only && x.Kind == api.StmtSelect
				if e != api.OK || len(l) != len(p.Body) || !reflect.DeepEqual(l[k], want) {
					t.Fatalf("%s: %+v, %v; want %+v", p.Body[k], l, e, want)
				}
			}
			if b.Reads(p.Name) != only {
				t.Fatalf("%+v: Reads: %t", p, !only)
			}
			if only {
				reads++
			}
		}
		if !sameCatalog(b.Catalog(), w.catalog) {
			t.Fatalf("%+v; was %+v", b.Catalog(), w.catalog)
		}
	}
	mustMeet(t, met, map[api.Errno]int{api.OK: 2000, api.ErrNone: 10, api.ErrType: 4, api.ErrSyntax: 4, api.ErrLexByte: 4, api.ErrLexNumber: 4})
	if reads < 500 {
		t.Error(reads)
	}
}

// Folds of calls: of each one what Admit and Mean say, and what it comes to over tables, whole and in steps.
func TestP173P174P175Thrown(t *testing.T) {
	met, rows, count := map[api.Errno]int{}, 0, 0
	for i := range 1500 {
		w := newWorld(i)
		b := thrownBook(t, w)
		if b == nil {
			continue
		}
		store, other := stored(t, w.catalog, w.parts, w.state), stored(t, w.catalog, 1+w.below(16), w.state)
		for range 8 {
			x := w.call()
			want, left := plainMean(w.catalog, w.state, x)
			if _, e := plainAdmit(w.catalog, x); b.Admit(x) != e {
				t.Fatalf("Admit(%+v): %v; want %v", x, b.Admit(x), e)
			}
			r, s := b.Mean(w.state, x)
			about := fmt.Sprintf("with %+v, %s, %+v", w.catalog, shownState(w.state), x)
			if a, b := told(r, s), told(want, left); a != b {
				t.Fatalf("%s: Mean: %s; want %s", about, a, b)
			}
			r = b.Call(store, x)
			if a, b := told(r, store.State()), told(want, left); a != b {
				t.Fatalf("%s, %d partitions: Call: %s; want %s", about, w.parts, a, b)
			}
			run := b.Begin(other, x)
			n := 0
			for !run.Step() {
				n++
			}
			r, over := run.Reply()
			if a, b := told(r, other.State()), told(want, left); a != b || !over || want.Code == api.OK && n != len(want.Results)-1 || want.Code != api.OK && n != want.At {
				t.Fatalf("%s: %d Steps: %s; want %s", about, n, a, b)
			}
			met[want.Code]++
			for _, x := range want.Results {
				rows, count = rows+len(x.Rows), count+x.Count
			}
			w.state = left
		}
	}
	mustMeet(t, met, map[api.Errno]int{api.OK: 2000, api.ErrArg: 100, api.ErrProc: 50, api.ErrArgs: 200, api.ErrBudget: 500, api.ErrUnique: 300, api.ErrNotNull: 50, api.ErrZero: 50, api.ErrOverflow: 20})
	if rows < 2500 || count < 2500 {
		t.Error(rows, count)
	}
}

// twin goes through a run by P17.6's words, with a work over a store of its own.
type twin struct {
	c       api.Catalog
	p       api.Proc
	typed   []api.Typed
	args    []api.Value
	store   *table.Store
	work    *table.Work
	results []api.Result
	over    bool
	reply   api.Reply
}

func newTwin(c api.Catalog, store *table.Store, x api.Call) *twin {
	i, e := plainAdmit(c, x)
	if e != api.OK {
		return &twin{over: true, reply: api.Reply{Code: e}}
	}
	typed, _, _, _ := plainNew(c)
	return &twin{c: c, p: c.Procs[i], typed: typed[i], args: x.Args, store: store, work: store.Begin()}
}

func (w *twin) step() bool {
	if w.over {
		return true
	}
	at := len(w.results)
	p, _ := plan.Make(w.c, w.p.Params, w.typed[at])
	var r api.Result
	e := api.ErrState
	if denote.Right(w.c, w.store.State()) {
		r, e = exec.Run(w.work, w.p.Params, p, w.args...)
	}
	w.results = append(w.results, r)
	rows, bytes := 0, 0
	for _, r := range w.results {
		rows += len(r.Rows) + r.Count
		for _, told := range r.Rows {
			more, _ := row.Encode(told...)
			bytes += len(more)
		}
	}
	if e == api.OK && (rows > w.p.Rows || bytes > w.p.Bytes) {
		e = api.ErrBudget
	}
	switch {
	case e != api.OK:
		w.end(api.Reply{Code: e, At: at})
	case len(w.results) == len(w.typed):
		w.work.Done()
		w.over, w.reply = true, api.Reply{Results: w.results}
	}
	return w.over
}

func (w *twin) end(r api.Reply) {
	if !w.over {
		w.work.Undo()
		w.over, w.reply = true, r
	}
}

// Runs that may touch the same rows, stepped, cancelled and asked by turns.
func TestP176Thrown(t *testing.T) {
	met, between := map[api.Errno]int{}, 0
	for i := range 2500 {
		w := newWorld(i)
		b := thrownBook(t, w)
		if b == nil {
			continue
		}
		x, y := stored(t, w.catalog, w.parts, w.state), stored(t, w.catalog, 1+w.below(16), w.state)
		var runs []*proc.Run
		var twins []*twin
		for range 40 {
			if len(runs) == 0 || w.oneIn(5) {
				c := w.call()
				runs, twins = append(runs, b.Begin(x, c)), append(twins, newTwin(w.catalog, y, c))
			}
			n := w.below(len(runs))
			if w.oneIn(10) {
				runs[n].Cancel()
				twins[n].end(api.Reply{Code: api.ErrArg})
			} else if got, want := runs[n].Step(), twins[n].step(); got != want {
				t.Fatalf("with %+v, %s: Step: %t", w.catalog, shownState(w.state), got)
			}
			r, over := runs[n].Reply()
			want := api.Reply{}
			if twins[n].over {
				want = twins[n].reply
			}
			if a, b := told(r, x.State()), told(want, y.State()); a != b || over != twins[n].over {
				t.Fatalf("with %+v, %s: %s, %t; want %s", w.catalog, shownState(w.state), a, over, b)
			}
			if met[r.Code]++; !over {
				between++
			}
		}
	}
	mustMeet(t, met, map[api.Errno]int{api.OK: 9000, api.ErrArg: 2000, api.ErrBudget: 2000, api.ErrUnique: 1000, api.ErrProc: 50, api.ErrArgs: 50, api.ErrState: 1})
	if between < 3000 {
		t.Error(between)
	}
}

// Procedures whose statements come to rows by keys that the calls hand in.
func TestP177Thrown(t *testing.T) {
	c := api.Catalog{Tables: []api.Table{{Name: "t", Columns: columns("a! I", "b! I", "c I", "d T"), Key: []int{1, 0}, Part: 1, Indexes: []api.Index{{Name: "i", Columns: []int{2}}}}}}
	sources := []string{
		"UPDATE t SET c = c + 1 WHERE b = :k", "UPDATE t SET c = 6 / c, d = 'u' WHERE b = :k AND a > :n", "DELETE FROM t WHERE b = :k AND a = :n", "DELETE FROM t WHERE b = :k AND c = :n", "INSERT INTO t VALUES (:n, :k, 0, 'i')", "INSERT INTO t VALUES (:n + 1, :k, :n, NULL)",
		"SELECT a, c, d FROM t WHERE b = :k", "SELECT COUNT(*), SUM(c) FROM t WHERE b = :k AND a >= :n", "SELECT d, COUNT(*) FROM t WHERE b = :k GROUP BY d", "UPDATE t SET a = 5 - a WHERE b = :k", "UPDATE t SET a = 0 WHERE b = :k AND a = :n",
	}
	met := map[api.Errno]int{}
	for i := range 2000 {
		d := dice(i)
		d.below(2)
		x := api.Catalog{Tables: c.Tables}
		for n := range 3 {
			p := api.Proc{Name: "p" + strconv.Itoa(n), Params: params("k I", "n I"), Rows: pick(&d, 3, 9, 99), Bytes: pick(&d, 20, 99, 999)}
			for range 1 + d.below(5) {
				p.Body = append(p.Body, pick(&d, sources...))
			}
			x.Procs = append(x.Procs, p)
		}
		var rows [][]api.Value
		for k := range 3 {
			for n := range 4 {
				if d.oneIn(2) {
					rows = append(rows, slices.Concat(list(fmt.Sprintf("%d %d %d", n, k, d.below(4))), list(pick(&d, "NULL", "'x'", "'y'"))))
				}
			}
		}
		first := api.State{Tables: [][][]api.Value{rows}}
		b, store := book(t, x), stored(t, x, 1+d.below(16), first)
		left := first
		var runs []*proc.Run
		var want []string
		for k := range 3 {
			x := call(pick(&d, "p0", "p1", "p2"), fmt.Sprintf("%d %d", k, d.below(5)))
			alone, _ := b.Mean(first, x)
			want = append(want, shownReply(alone))
			met[alone.Code]++
			_, left = b.Mean(left, x)
			runs = append(runs, b.Begin(store, x))
		}
		over := 0
		for over < 3 {
			over = 0
			runs[d.below(3)].Step()
			for _, r := range runs {
				if _, ok := r.Reply(); ok {
					over++
				}
			}
		}
		for k, r := range runs {
			if got, _ := r.Reply(); shownReply(got) != want[k] || shownState(store.State()) != shownState(left) {
				t.Fatalf("%+v, %s: %d: %s, %s; want %s, %s", x, shownState(first), k, shownReply(got), shownState(store.State()), want[k], shownState(left))
			}
		}
	}
	mustMeet(t, met, map[api.Errno]int{api.OK: 1000, api.ErrBudget: 300, api.ErrUnique: 300, api.ErrZero: 100})
}

// Whatever is handed in, there is an answer.
func TestR1Anything(t *testing.T) {
	ints := []int{0, 1, 2, -1, 65, math.MaxInt, math.MinInt}
	texts := []string{"", "p", "t", "P", "\x00", strings.Repeat("p", 99)}
	for i := range 400 {
		w := newWorld(i)
		x := w.call()
		c, s := w.catalog, w.state
		for _, p := range slices.Concat(partsOf(&c), partsOf(&s), partsOf(&x)) {
			if !w.oneIn(10) {
				continue
			}
			was := reflect.New(p.Type()).Elem()
			was.Set(p.Value)
			switch p.Kind() {
			case reflect.Int:
				p.SetInt(int64(pick(&w.dice, ints...)))
			case reflect.String:
				p.SetString(pick(&w.dice, texts...))
			case reflect.Slice:
				p.Set(pick(&w.dice, reflect.Zero(p.Type()), reflect.MakeSlice(p.Type(), 1, 1), p.Slice(0, p.Len()/2)))
			}
			if b, _, _, f := proc.New(c); b == nil {
				if f.Code == api.OK {
					t.Fatalf("%+v: no book, and no fault", c)
				}
			} else {
				want, left := plainMean(c, s, x)
				if r, l := b.Mean(s, x); told(r, l) != told(want, left) {
					t.Fatalf("%+v, %+v, %+v: %s; want %s", c, s, x, told(r, l), told(want, left))
				}
				store, _ := table.New(c, 3)
				if store.Load(s) == api.OK {
					b.Call(store, x)
				}
				b.Plans(x.Proc)
				b.Reads(x.Proc)
			}
			p.Set(was)
		}
	}
}

// Beside an error there are no results, and no plans.
func TestR3BesideAnError(t *testing.T) {
	errors := 0
	for i := range 1000 {
		w := newWorld(i)
		b := thrownBook(t, w)
		if b == nil {
			continue
		}
		x := w.call()
		r, s := b.Mean(w.state, x)
		store := stored(t, w.catalog, w.parts, w.state)
		q := b.Call(store, x)
		if r.Code != api.OK {
			errors++
			if r.Results != nil || q.Results != nil || shownState(s) != shownState(w.state) || shownState(store.State()) != shownState(w.state) {
				t.Fatal(told(r, s), told(q, store.State()))
			}
		}
		if l, e := b.Plans(x.Proc); e != api.OK && l != nil {
			t.Fatal(l, e)
		}
	}
	if errors < 200 {
		t.Error(errors)
	}
}

// Of a result just one of Rows and Count is told.
func TestR8RowsOrCount(t *testing.T) {
	for i := range 1000 {
		w := newWorld(i)
		b := thrownBook(t, w)
		if b == nil {
			continue
		}
		x := w.call()
		r, _ := b.Mean(w.state, x)
		l, _ := b.Plans(x.Proc)
		for n, x := range append(r.Results, b.Call(stored(t, w.catalog, w.parts, w.state), x).Results...) {
			if reads := l[n%len(l)].Typed.Kind == api.StmtSelect; reads && x.Count != 0 || !reads && x.Rows != nil {
				t.Fatal(x)
			}
		}
	}
}

// part is a field, or an element of a list, of something, with the name of the field that has it.
type part struct {
	reflect.Value
	name string
}

// partsOf are all parts of what a pointer points to.
func partsOf(x any) []part {
	var l []part
	var walk func(v reflect.Value, name string)
	walk = func(v reflect.Value, name string) {
		l = append(l, part{v, name})
		switch v.Kind() {
		case reflect.Struct:
			for i := range v.NumField() {
				walk(v.Field(i), v.Type().Field(i).Name)
			}
		case reflect.Slice:
			for i := range v.Len() {
				walk(v.Index(i), name)
			}
		}
	}
	walk(reflect.ValueOf(x).Elem(), "")
	return l
}

// handed is what the calls of a book are handed.
type handed struct {
	Catalog api.Catalog
	State   api.State
	Call    api.Call
}

// answers are what they answer.
type answers struct {
	Catalog            api.Catalog
	Plans              []api.Plan
	Mean, Called, Run  api.Reply
	Again              api.Reply
	Left, Stood, Stays api.State
}

// ask asks all of a book; with a nil book it makes one.
func ask(t *testing.T, b *proc.Book, h *handed) *answers {
	t.Helper()
	if b == nil {
		b = book(t, h.Catalog)
	}
	a := &answers{Catalog: b.Catalog()}
	a.Plans, _ = b.Plans(h.Call.Proc)
	a.Mean, a.Left = b.Mean(h.State, h.Call)
	x, e := table.New(h.Catalog, 3)
	if e != api.OK || x.Load(h.State) != api.OK {
		t.Fatal(e)
	}
	r := b.Begin(x, h.Call)
	for !r.Step() {
	}
	a.Run, _ = r.Reply()
	a.Again, _ = r.Reply()
	a.Stood = x.State()
	x.Load(h.State)
	a.Called = b.Call(x, h.Call)
	a.Stays = x.State()
	return a
}

func (a *answers) told() string { return fmt.Sprintf("%+v", *a) }

// thrownHanded is what is handed to a world's book; false: there is no such book.
func thrownHanded(seed int) (*handed, bool) {
	w := newWorld(seed)
	h := &handed{w.catalog, w.state, w.call()}
	b, _, _, _ := proc.New(w.catalog)
	return h, b != nil
}

// Empty lists are as none, and lists that are none are answered so.
func TestR4EmptyLists(t *testing.T) {
	for i := range 300 {
		h, ok := thrownHanded(i)
		if !ok {
			continue
		}
		b := book(t, h.Catalog)
		want := ask(t, b, h).told()
		for _, p := range partsOf(h) {
			if p.Kind() == reflect.Slice && p.Len() == 0 {
				p.Set(reflect.MakeSlice(p.Type(), 0, 3))
			}
		}
		if got := ask(t, nil, h).told(); got != want {
			t.Fatalf("%s; with empty lists %s", want, got)
		}
		if got := ask(t, b, h).told(); got != want {
			t.Fatalf("%s; with empty lists, of the same book %s", want, got)
		}
	}
}

// room is the memory of a list, its spare one too, or of a text.
type room struct {
	from, to uintptr
	name     string
}

func roomsOf(x any) []room {
	var l []room
	for _, p := range partsOf(x) {
		switch p.Kind() {
		case reflect.Slice:
			from := p.Pointer()
			l = append(l, room{from, from + uintptr(p.Cap())*p.Type().Elem().Size(), p.name})
		case reflect.String:
			// Texts of one byte stand in the program's own table.
			if s := p.String(); len(s) > 1 {
				from := uintptr(unsafe.Pointer(unsafe.StringData(s)))
				l = append(l, room{from, from + uintptr(len(s)), p.name})
			}
		}
	}
	return slices.DeleteFunc(l, func(r room) bool { return r.from == r.to })
}

func apart(t *testing.T, a, b []room) {
	t.Helper()
	for i, x := range a {
		for j, y := range b {
			if x.from < y.to && y.from < x.to && !(len(a) == len(b) && &a[0] == &b[0] && i == j) {
				t.Fatalf("%s and %s share memory", x.name, y.name)
			}
		}
	}
}

func TestR5AnswersAreNew(t *testing.T) {
	rows, texts := 0, 0
	for i := range 1500 {
		h, ok := thrownHanded(i)
		if !ok {
			continue
		}
		b := book(t, h.Catalog)
		first := ask(t, b, h)
		again := ask(t, b, h)
		told := roomsOf(again)
		apart(t, told, roomsOf(h))
		apart(t, told, told)
		apart(t, told, roomsOf(first))
		for _, r := range again.Mean.Results {
			rows += len(r.Rows)
		}
		texts += len(slices.DeleteFunc(roomsOf(&again.Run), func(r room) bool { return r.name != "Text" }))
	}
	if rows < 200 || texts < 20 {
		t.Error(rows, texts)
	}
}

// A state that Mean answers with an error is new too, whatever it is.
func TestR5StatesThatAreNotRight(t *testing.T) {
	b := book(t, one(9, 99, nil, "DELETE FROM t"))
	for _, name := range []string{"p", "none"} {
		s := state("2 'xyz'; 1 'abc'; NULL", "1", "'far'")
		before := shownState(s)
		_, left := b.Mean(s, call(name, ""))
		told := roomsOf(&left)
		apart(t, told, roomsOf(&s))
		apart(t, told, told)
		left.Tables[0][0][1].Text = "other"
		if shownState(s) != before {
			t.Error(shownState(s))
		}
	}
}

// roomy gives all lists spare room.
func roomy(x any) {
	for _, p := range partsOf(x) {
		if p.Kind() == reflect.Slice {
			wide := reflect.MakeSlice(p.Type(), p.Len(), p.Len()+3)
			reflect.Copy(wide, p.Value)
			p.Set(wide)
		}
	}
}

// whole is all of something, with the spare room of its lists.
func whole(x any) string {
	out := fmt.Sprintf("%+v", reflect.ValueOf(x).Elem().Interface())
	for _, p := range partsOf(x) {
		if p.Kind() == reflect.Slice {
			out += fmt.Sprintf("|%+v", p.Slice3(p.Len(), p.Cap(), p.Cap()).Slice(0, p.Cap()-p.Len()).Interface())
		}
	}
	return out
}

// spoil changes all numbers and texts of something, within its lists.
func spoil(x any) {
	for _, p := range partsOf(x) {
		switch p.Kind() {
		case reflect.Int:
			p.SetInt(p.Int() + 1)
		case reflect.String:
			p.SetString(p.String() + "!")
		}
	}
}

// What is handed in stays as it is, its spare room too; and what is done later to it, and to what was answered, is of no weight.
func TestR5ArgumentsStay(t *testing.T) {
	for i := range 300 {
		h, ok := thrownHanded(i)
		if !ok {
			continue
		}
		roomy(h)
		before := whole(h)
		b := book(t, h.Catalog)
		a := ask(t, b, h)
		want := a.told()
		if after := whole(h); after != before {
			t.Fatalf("%s; then %s", before, after)
		}
		spoil(a)
		spoil(h)
		again, _ := thrownHanded(i)
		if after := ask(t, b, again).told(); after != want {
			t.Fatalf("%s; then %s", want, after)
		}
	}
}

// A run keeps neither the call's arguments, nor what it has answered.
func TestR5ArgumentsOfARun(t *testing.T) {
	c := one(99, 999, params("k I", "l T"), "INSERT INTO w VALUES (:k, NULL, :k, :l)", "SELECT k, :l FROM w", "SELECT o FROM w WHERE o = :l")
	b, x := book(t, c), stored(t, c, 2, state("", ""))
	k := call("p", "1 'abc'")
	r := b.Begin(x, k)
	for range 3 {
		k.Args[0].Int++
		k.Args[1] = api.Value{Kind: api.Bool}
		r.Step()
	}
	for range 2 {
		reply, _ := r.Reply()
		if got := shownReply(reply) + shownState(x.State()); got != "() 1, (1 'abc') 0, ('abc') 0 | 1 NULL 1 'abc'" {
			t.Error(got)
		}
		reply.Results[0].Count = 9
		reply.Results[1].Rows[0][1] = api.Value{}
		clear(reply.Results[2].Rows)
	}
}

// What is answered hangs on the arguments alone: not on what was asked ahead of that, nor on runs that are under way elsewhere.
func TestR6TheSameAgain(t *testing.T) {
	for i := range 300 {
		h, ok := thrownHanded(i)
		if !ok {
			continue
		}
		b := book(t, h.Catalog)
		want := ask(t, b, h).told()
		w := newWorld(i)
		x := stored(t, w.catalog, w.parts, w.state)
		for range 5 {
			b.Begin(x, w.call()).Step()
			b.Call(x, w.call())
		}
		if got := ask(t, b, h).told(); got != want {
			t.Fatalf("%s; then %s", want, got)
		}
	}
}
