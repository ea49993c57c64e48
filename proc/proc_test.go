package proc_test

import (
	"fmt"
	"math"
	"reflect"
	"slices"
	"strings"
	"testing"

	"unison/api"
	"unison/catalog"
	"unison/check"
	"unison/denote"
	"unison/plan"
	"unison/proc"
	"unison/row"
	"unison/syntax"
	"unison/table"
	"unison/value"
)

// chapter is the chapter's catalog.
func chapter() api.Catalog {
	return api.Catalog{
		Tables: []api.Table{{Name: "t", Columns: columns("a! I", "b I"), Key: []int{0}}},
		Procs: []api.Proc{
			{Name: "put", Params: params("k I", "v I"), Body: []string{"INSERT INTO t VALUES (:k, :v)"}, Rows: 10, Bytes: 100},
			{Name: "move", Params: params("k I", "l I"), Body: []string{"UPDATE t SET b = b - 1 WHERE a = :k", "UPDATE t SET b = b + 1 WHERE a = :l", "SELECT b FROM t WHERE a = :k OR a = :l"}, Rows: 10, Bytes: 100},
			{Name: "few", Body: []string{"SELECT a FROM t"}, Rows: 1, Bytes: 100},
		},
	}
}

// tables are the chapter's t; and w, which has an index of each kind.
func tables() []api.Table {
	return []api.Table{
		{Name: "t", Columns: columns("a! I", "b I"), Key: []int{0}},
		{Name: "w", Columns: columns("k! I", "m B", "n I", "o T"), Key: []int{0}, Indexes: []api.Index{{Name: "x", Columns: []int{3}}, {Name: "y", Columns: []int{2}, Unique: true}}},
	}
}

// one is the catalog of tables() with a single procedure, p.
func one(rows, bytes int, l []api.Param, body ...string) api.Catalog {
	return api.Catalog{Tables: tables(), Procs: []api.Proc{{Name: "p", Params: l, Body: body, Rows: rows, Bytes: bytes}}}
}

// columns are some, each written as its name, with ! if it is NotNull, and the first letter of its type.
func columns(l ...string) []api.Column {
	var out []api.Column
	for _, s := range l {
		name, kind, _ := strings.Cut(s, " ")
		plain := strings.TrimSuffix(name, "!")
		out = append(out, api.Column{Name: plain, Type: strings.Index(" IBT", kind), NotNull: plain != name})
	}
	return out
}

func params(l ...string) []api.Param {
	var out []api.Param
	for _, c := range columns(l...) {
		out = append(out, api.Param{Name: c.Name, Type: c.Type})
	}
	return out
}

// list are the values of literals with blanks between.
func list(s string) []api.Value {
	var l []api.Value
	for _, word := range strings.Fields(s) {
		v, e := value.Parse(word)
		if e != api.OK {
			panic(word)
		}
		l = append(l, v)
	}
	return l
}

// state is the rows of some tables, each row but the last with a semicolon behind it.
func state(tables ...string) api.State {
	var s api.State
	for _, rows := range tables {
		var l [][]api.Value
		for text := range strings.SplitSeq(rows, ";") {
			if row := list(text); len(row) > 0 {
				l = append(l, row)
			}
		}
		s.Tables = append(s.Tables, l)
	}
	return s
}

func shown(rows [][]api.Value) string {
	var out []string
	for _, row := range rows {
		var l []string
		for _, v := range row {
			s, e := value.Print(v)
			if e != api.OK {
				s = fmt.Sprintf("?%d,%d,%q", v.Kind, v.Int, v.Text)
			}
			l = append(l, s)
		}
		out = append(out, strings.Join(l, " "))
	}
	return strings.Join(out, "; ")
}

func shownState(s api.State) string {
	var out []string
	for _, rows := range s.Tables {
		out = append(out, shown(rows))
	}
	return strings.Join(out, " | ")
}

// shownReply is a reply's results, each its rows and its Count; or its error, and where.
func shownReply(r api.Reply) string {
	var out []string
	for _, x := range r.Results {
		out = append(out, fmt.Sprintf("(%s) %d", shown(x.Rows), x.Count))
	}
	if r.Code != api.OK || r.At != 0 {
		out = append(out, wrong(r.Code, r.At))
	}
	return strings.Join(out, ", ")
}

func wrong(e api.Errno, at int) string { return fmt.Sprintf("%v at %d", e, at) }

func call(name string, args string) api.Call {
	return api.Call{Client: 1, Seq: 1, Proc: name, Args: list(args)}
}

func book(t *testing.T, c api.Catalog) *proc.Book {
	t.Helper()
	b, i, k, f := proc.New(c)
	if b == nil || i != 0 || k != 0 || f != (api.Fault{}) {
		t.Fatalf("%+v: %v, %d, %d, %+v", c, b, i, k, f)
	}
	return b
}

func stored(t *testing.T, c api.Catalog, parts int, s api.State) *table.Store {
	t.Helper()
	x, e := table.New(c, parts)
	if e != api.OK {
		t.Fatal(e)
	}
	if e := x.Load(s); e != api.OK {
		t.Fatal(shownState(s), e)
	}
	return x
}

// mustMean holds what a call means, and what it comes to over tables, whole and in steps, against what is wanted.
func mustMean(t *testing.T, c api.Catalog, s api.State, x api.Call, reply, left string) {
	t.Helper()
	b := book(t, c)
	r, l := b.Mean(s, x)
	if shownReply(r) != reply || shownState(l) != left {
		t.Errorf("Mean(%s, %v): %s, %s; want %s, %s", shownState(s), x, shownReply(r), shownState(l), reply, left)
	}
	for _, parts := range []int{1, 3, 16} {
		store := stored(t, c, parts, s)
		if r := b.Call(store, x); shownReply(r) != reply || shownState(store.State()) != left {
			t.Errorf("Call(%s, %v): %s, %s; want %s, %s", shownState(s), x, shownReply(r), shownState(store.State()), reply, left)
		}
		store = stored(t, c, parts, s)
		run := b.Begin(store, x)
		for !run.Step() {
			if r, over := run.Reply(); over || !reflect.DeepEqual(r, api.Reply{}) {
				t.Errorf("%v: %v ahead of the end", x, r)
			}
		}
		if r, over := run.Reply(); !over || shownReply(r) != reply || shownState(store.State()) != left {
			t.Errorf("Steps of %v: %s, %t, %s; want %s, %s", x, shownReply(r), over, shownState(store.State()), reply, left)
		}
	}
}

func TestExamples(t *testing.T) {
	s := state("1 5; 2 5")
	mustMean(t, chapter(), s, call("put", "3 1"), "() 1", "1 5; 2 5; 3 1")
	mustMean(t, chapter(), s, call("put", "1 1"), wrong(api.ErrUnique, 0), "1 5; 2 5")
	mustMean(t, chapter(), s, call("move", "1 2"), "() 1, () 1, (4; 6) 0", "1 4; 2 6")
	mustMean(t, chapter(), s, call("few", ""), wrong(api.ErrBudget, 0), "1 5; 2 5")
	mustMean(t, chapter(), s, call("none", ""), wrong(api.ErrProc, 0), "1 5; 2 5")
	mustMean(t, chapter(), s, call("put", "1"), wrong(api.ErrArgs, 0), "1 5; 2 5")
	mustMean(t, chapter(), state("1 5"), call("move", "1 2"), "() 1, () 0, (4) 0", "1 4")
	mustMean(t, chapter(), state("1 5"), call("few", ""), "(1) 0", "1 5")
}

func TestP171WrongCatalog(t *testing.T) {
	for i, change := range []func(c *api.Catalog){
		func(c *api.Catalog) { c.Tables[0].Name = "T" },
		func(c *api.Catalog) { c.Tables[0].Key = nil },
		func(c *api.Catalog) { c.Tables[0].Columns[0].NotNull = false },
		func(c *api.Catalog) { c.Tables[0].Columns[1].Type = 4 },
		func(c *api.Catalog) { c.Tables = append(c.Tables, c.Tables[0]) },
		func(c *api.Catalog) { c.Procs[1].Name = "put" },
		func(c *api.Catalog) { c.Procs[2].Name = "" },
		func(c *api.Catalog) { c.Procs[0].Params[1].Name = "k" },
		func(c *api.Catalog) { c.Procs[0].Params[1].Type = 0 },
		func(c *api.Catalog) { c.Procs[2].Body = nil },
		func(c *api.Catalog) { c.Procs[2].Body = slices.Repeat(c.Procs[2].Body, 9) },
		func(c *api.Catalog) { c.Procs[2].Body = []string{""} },
		func(c *api.Catalog) { c.Procs[2].Body[0] += strings.Repeat(" ", 1001-len(c.Procs[2].Body[0])) },
		func(c *api.Catalog) { c.Procs[2].Rows = -1 },
		func(c *api.Catalog) { c.Procs[2].Bytes = 1<<20 + 1 },
	} {
		c := chapter()
		change(&c)
		if b, p, s, f := proc.New(c); b != nil || p != 0 || s != 0 || f != (api.Fault{Code: api.ErrCatalog}) {
			t.Error(i, b, p, s, f)
		}
		// Ahead of what is wrong with a source.
		if len(c.Procs[1].Body) > 1 {
			c.Procs[1].Body[1] = "SELECT"
		}
		if b, p, s, f := proc.New(c); b != nil || p != 0 || s != 0 || f != (api.Fault{Code: api.ErrCatalog}) {
			t.Error(i, b, p, s, f)
		}
	}
}

func TestP171Faults(t *testing.T) {
	for _, x := range []struct {
		source string
		fault  api.Fault
	}{
		{"SELECT ? FROM t", api.Fault{Code: api.ErrLexByte, At: 7}},
		{"SELECT 07 FROM t", api.Fault{Code: api.ErrLexNumber, At: 7}},
		{"SELECT 'a FROM t", api.Fault{Code: api.ErrLexText, At: 7}},
		{"SELECT", api.Fault{Code: api.ErrSyntax, At: 6}},
		{"SELECT a = b = a FROM t", api.Fault{Code: api.ErrSyntax, At: 13}},
		{"SELECT 1,2,3,4,5,6,7,8,9 FROM t", api.Fault{Code: api.ErrMany, At: 23}},
		{" DELETE FROM t WHERE " + strings.Repeat("NOT ", 16) + "TRUE", api.Fault{Code: api.ErrDeep, At: 1}},
		{"SELECT a FROM v", api.Fault{Code: api.ErrNone}},
		{"SELECT c FROM t", api.Fault{Code: api.ErrNone, At: 7}},
		{"SELECT :v FROM t", api.Fault{Code: api.ErrNone, At: 7}},
		{"SELECT a FROM t JOIN t ON TRUE", api.Fault{Code: api.ErrTwice, At: 21}},
		{"SELECT a FROM t WHERE a = TRUE", api.Fault{Code: api.ErrType, At: 24}},
		{"INSERT INTO t VALUES (:k)", api.Fault{Code: api.ErrWidth}},
		{"SELECT a, COUNT(*) FROM t", api.Fault{Code: api.ErrMixed, At: 7}},
		{"SELECT a FROM t ORDER BY 2", api.Fault{Code: api.ErrNone, At: 25}},
		// Of one source the grammar is asked first.
		{"SELECT c FROM v WHERE", api.Fault{Code: api.ErrSyntax, At: 21}},
	} {
		for place := range 3 {
			c := chapter()
			c.Procs[1].Body[place] = x.source
			if b, p, s, f := proc.New(c); b != nil || p != 1 || s != place || f != x.fault {
				t.Errorf("%s: %v, %d, %d, %+v; want %+v", x.source, b, p, s, f, x.fault)
			}
		}
	}
}

// The first one is told, by procedures and then by statements, whatever kind of fault it is.
func TestP171TheFirstFault(t *testing.T) {
	wrongs := []string{"SELECT z FROM t", "SELECT 07 FROM t", "SELECT a FROM", "SELECT a + TRUE FROM t"}
	faults := []api.Fault{{Code: api.ErrNone, At: 7}, {Code: api.ErrLexNumber, At: 7}, {Code: api.ErrSyntax, At: 13}, {Code: api.ErrType, At: 11}}
	type place struct{ proc, stmt int }
	places := []place{{0, 0}, {1, 0}, {1, 1}, {1, 2}, {2, 0}}
	for i, a := range places {
		for _, b := range places[i+1:] {
			for n := range wrongs {
				c := chapter()
				c.Procs[a.proc].Body[a.stmt] = wrongs[n]
				c.Procs[b.proc].Body[b.stmt] = wrongs[(n+1)%len(wrongs)]
				if got, p, s, f := proc.New(c); got != nil || (place{p, s}) != a || f != faults[n] {
					t.Errorf("wrong at %v and %v: %d, %d, %+v; want %+v", a, b, p, s, f, faults[n])
				}
			}
		}
	}
}

// Each procedure has the parameters that it is defined with, and no others.
func TestP171OwnParams(t *testing.T) {
	c := chapter()
	c.Procs[2].Body[0] = "SELECT :k FROM t"
	if b, p, s, f := proc.New(c); b != nil || p != 2 || s != 0 || f != (api.Fault{Code: api.ErrNone, At: 7}) {
		t.Error(b, p, s, f)
	}
	c.Procs[2].Params = params("k T")
	book(t, c)
	c.Procs[0].Params[0].Type = api.Text
	if b, p, s, f := proc.New(c); b != nil || p != 0 || s != 0 || f != (api.Fault{Code: api.ErrType, At: 22}) {
		t.Error(b, p, s, f)
	}
}

// As much as there may be, and as little.
func TestP171Limits(t *testing.T) {
	c := api.Catalog{Tables: tables()}
	source := "SELECT a FROM t WHERE a = :p7"
	source += strings.Repeat(" ", api.MaxSource-len(source))
	for i := range api.MaxProcs {
		p := api.Proc{Name: fmt.Sprintf("q%d", i), Body: slices.Repeat([]string{source}, api.MaxBody), Rows: api.MaxBudget, Bytes: api.MaxBudget}
		for n := range api.MaxParams {
			p.Params = append(p.Params, api.Param{Name: fmt.Sprintf("p%d", n), Type: api.Int})
		}
		c.Procs = append(c.Procs, p)
	}
	b := book(t, c)
	l, e := b.Plans("q15")
	if len(l) != api.MaxBody || e != api.OK || l[7].Access[0].Fixed[0].Num != 7 {
		t.Error(l, e)
	}
	mustMean(t, c, state("1 5; 7 6", ""), call("q15", "1 2 3 4 5 6 7 7"), strings.TrimSuffix(strings.Repeat("(7) 0, ", 8), ", "), "1 5; 7 6 | ")
	c.Procs[15].Body[7] = source[:28] + " "
	if b, p, s, f := proc.New(c); b != nil || p != 15 || s != 7 || f != (api.Fault{Code: api.ErrNone, At: 26}) {
		t.Error(b, p, s, f)
	}
	for _, c := range []api.Catalog{{}, {Tables: tables()}} {
		b := book(t, c)
		if r, s := b.Mean(denote.Empty(c), call("p", "")); shownReply(r) != wrong(api.ErrProc, 0) || len(s.Tables) != len(c.Tables) {
			t.Error(r, s)
		}
	}
}

func sameCatalog(a, b api.Catalog) bool {
	x, e := catalog.Encode(a)
	y, f := catalog.Encode(b)
	return e == api.OK && f == api.OK && x == y
}

func TestP172Catalog(t *testing.T) {
	for _, c := range []api.Catalog{chapter(), one(1, 2, params("k I", "l T"), "SELECT k FROM w WHERE o = :l"), {}, {Tables: tables()}} {
		b := book(t, c)
		for range 2 {
			if got := b.Catalog(); !sameCatalog(got, c) || !reflect.DeepEqual(got, c) {
				t.Errorf("%+v; want %+v", got, c)
			}
		}
	}
}

func TestP172Plans(t *testing.T) {
	c := one(9, 99, params("k I", "l T"), "SELECT k FROM w WHERE o = :l", "INSERT INTO t VALUES (:k, 1)", "UPDATE w SET m = TRUE WHERE k >= :k", "SELECT t.a FROM t JOIN w ON a = n WHERE b = 3", "DELETE FROM t")
	c.Procs = append(chapter().Procs, c.Procs...)
	b := book(t, c)
	for _, p := range c.Procs {
		l, e := b.Plans(p.Name)
		if len(l) != len(p.Body) || e != api.OK {
			t.Fatal(p, l, e)
		}
		for i, source := range p.Body {
			s, _ := syntax.Parse(source)
			x, _ := check.Check(c, p.Params, s)
			want, e := plan.Make(c, p.Params, x)
			if e != api.OK || !reflect.DeepEqual(l[i], want) {
				t.Errorf("%s: %+v; want %+v", source, l[i], want)
			}
		}
	}
	l, _ := b.Plans("p")
	if l[0].Access[0].Way != api.WayIndex || l[1].Access != nil || l[2].Access[0].Way != api.WayKey || l[3].Access[1].Index != 1 || l[4].Access[0].Way != api.WayAll {
		t.Errorf("%+v", l)
	}
	for _, name := range []string{"", "none", "Put", "pu", "putt", "t"} {
		if l, e := b.Plans(name); l != nil || e != api.ErrProc {
			t.Error(name, l, e)
		}
	}
}

func TestP172Reads(t *testing.T) {
	read, insert, update, remove := "SELECT a FROM t", "INSERT INTO t VALUES (1, 2)", "UPDATE t SET b = 1", "DELETE FROM t"
	for _, x := range []struct {
		body []string
		want bool
	}{
		{[]string{read}, true}, {[]string{insert}, false}, {[]string{update}, false}, {[]string{remove}, false},
		{[]string{read, "SELECT COUNT(*) FROM t JOIN w ON TRUE", read}, true}, {[]string{read, read, insert}, false}, {[]string{update, read, read}, false}, {[]string{read, remove, read}, false},
	} {
		if got := book(t, one(1, 1, nil, x.body...)).Reads("p"); got != x.want {
			t.Errorf("%v: %t", x.body, got)
		}
	}
	b := book(t, chapter())
	for _, name := range []string{"", "none", "FEW", "t"} {
		if b.Reads(name) {
			t.Error(name)
		}
	}
	if !b.Reads("few") || b.Reads("put") || b.Reads("move") {
		t.Error("what only reads")
	}
}

// admits holds what Admit says of a call, and what comes of it.
func admits(t *testing.T, b *proc.Book, x api.Call, want api.Errno) {
	t.Helper()
	if e := b.Admit(x); e != want {
		t.Errorf("Admit(%+v): %v; want %v", x, e, want)
	}
	if want == api.OK {
		return
	}
	s := state("1 5; 2 5", "")
	if r, left := b.Mean(s, x); shownReply(r) != wrong(want, 0) || shownState(left) != shownState(s) {
		t.Errorf("Mean of %+v: %s, %s", x, shownReply(r), shownState(left))
	}
	store := stored(t, b.Catalog(), 2, s)
	if r := b.Call(store, x); shownReply(r) != wrong(want, 0) || shownState(store.State()) != shownState(s) {
		t.Errorf("Call of %+v: %s, %s", x, shownReply(r), shownState(store.State()))
	}
	run := b.Begin(store, x)
	for range 2 {
		if r, over := run.Reply(); !over || shownReply(r) != wrong(want, 0) || !run.Step() || shownState(store.State()) != shownState(s) {
			t.Errorf("Begin of %+v: %s, %t", x, shownReply(r), over)
		}
		run.Cancel()
	}
}

func TestP173Clients(t *testing.T) {
	b := book(t, one(9, 99, params("k I"), "DELETE FROM t WHERE a = :k"))
	for _, n := range []int{1, 2, 63, 64} {
		admits(t, b, api.Call{Client: n, Seq: 1, Proc: "p", Args: list("1")}, api.OK)
	}
	for _, n := range []int{1, 2, 65, 1<<62 - 1, 1 << 62} {
		admits(t, b, api.Call{Client: 1, Seq: n, Proc: "p", Args: list("1")}, api.OK)
	}
	for _, n := range []int{0, -1, 65, math.MaxInt, math.MinInt} {
		admits(t, b, api.Call{Client: n, Seq: 1, Proc: "p", Args: list("1")}, api.ErrArg)
	}
	for _, n := range []int{0, -1, 1<<62 + 1, math.MaxInt, math.MinInt} {
		admits(t, b, api.Call{Client: 1, Seq: n, Proc: "p", Args: list("1")}, api.ErrArg)
	}
}

func TestP173Args(t *testing.T) {
	b := book(t, one(9, 99, params("k I", "q B", "r T"), "SELECT :k, :q, :r FROM t"))
	most := "4611686018427387904"
	for _, args := range []string{"1 TRUE 'x'", "NULL NULL NULL", most + " FALSE ''", "-" + most + " TRUE '" + strings.Repeat("x", 64) + "'", "0 NULL 'x'"} {
		admits(t, b, call("p", args), api.OK)
	}
	long := api.Value{Kind: api.Text, Text: strings.Repeat("x", 65)}
	for _, args := range [][]api.Value{
		nil, list("1"), list("1 TRUE"), list("1 TRUE 'x' NULL"), list("TRUE TRUE 'x'"), list("'x' TRUE 'x'"), list("1 1 'x'"), list("1 'x' 'x'"), list("1 TRUE 1"), list("1 TRUE TRUE"), list("'x' TRUE 1"),
		{{Kind: api.Int, Int: 1<<62 + 1}, {}, {}}, {{Kind: api.Int, Int: -1<<62 - 1}, {}, {}}, {{Kind: api.Int, Text: "x"}, {}, {}}, {{Int: 1}, {}, {}}, {{Text: "x"}, {}, {}}, {{Kind: 4}, {}, {}}, {{Kind: -1}, {}, {}},
		{{}, {Kind: api.Bool, Int: 2}, {}}, {{}, {Kind: api.Bool, Int: -1}, {}}, {{}, {}, long}, {{}, {}, {Kind: api.Text, Int: 1}},
	} {
		admits(t, b, api.Call{Client: 1, Seq: 1, Proc: "p", Args: args}, api.ErrArgs)
	}
	b = book(t, one(9, 99, nil, "DELETE FROM t"))
	admits(t, b, call("p", ""), api.OK)
	admits(t, b, api.Call{Client: 1, Seq: 1, Proc: "p", Args: []api.Value{}}, api.OK)
	admits(t, b, call("p", "NULL"), api.ErrArgs)
}

// The client and the Seq are asked first, then the procedure, then the arguments.
func TestP173WhichIsFirst(t *testing.T) {
	b := book(t, one(9, 99, params("k I"), "DELETE FROM t WHERE a = :k"))
	for _, client := range []int{0, 1, 65} {
		for _, seq := range []int{0, 1, 1<<62 + 1} {
			for _, name := range []string{"p", "", "none", "P"} {
				for _, args := range []string{"1", "", "TRUE", "1 1"} {
					want := api.OK
					switch {
					case client != 1 || seq != 1:
						want = api.ErrArg
					case name != "p":
						want = api.ErrProc
					case args != "1":
						want = api.ErrArgs
					}
					admits(t, b, api.Call{Client: client, Seq: seq, Proc: name, Args: list(args)}, want)
				}
			}
		}
	}
}

// spoilt is a state in which something is changed.
func spoilt(s api.State, change func(s *api.State)) api.State {
	change(&s)
	return s
}

func TestP174StateIsNotRight(t *testing.T) {
	b := book(t, one(9, 99, nil, "DELETE FROM t"))
	fine := func() api.State { return state("1 5; 2 5", "1 TRUE 5 'a'; 2 NULL NULL NULL") }
	if r, s := b.Mean(fine(), call("p", "")); shownReply(r) != "() 2" || shownState(s) != " | 1 TRUE 5 'a'; 2 NULL NULL NULL" {
		t.Error(shownReply(r), shownState(s))
	}
	for i, s := range []api.State{
		{},
		state("1 5"),
		state("1 5", "", ""),
		state("2 5; 1 5", ""),
		state("1 5; 1 6", ""),
		state("1", ""),
		state("1 5 5", ""),
		state("NULL 5", ""),
		state("TRUE 5", ""),
		state("1 'x'", ""),
		state("", "1 TRUE 5 'a'; 2 NULL 5 'b'"),
		spoilt(fine(), func(s *api.State) { s.Tables[0][1][1].Int = 1<<62 + 1 }),
		spoilt(fine(), func(s *api.State) { s.Tables[1][0][3].Text = strings.Repeat("x", 65) }),
		spoilt(fine(), func(s *api.State) { s.Tables[1][1][1].Text = "x" }),
		spoilt(fine(), func(s *api.State) { s.Tables[0][0] = nil }),
	} {
		if r, left := b.Mean(s, call("p", "")); shownReply(r) != wrong(api.ErrState, 0) || !reflect.DeepEqual(left, s) {
			t.Errorf("%d: %s, %+v; want %+v", i, shownReply(r), left, s)
		}
		// Admit is asked first.
		if r, left := b.Mean(s, call("none", "")); shownReply(r) != wrong(api.ErrProc, 0) || !reflect.DeepEqual(left, s) {
			t.Errorf("%d: %s, %+v; want %+v", i, shownReply(r), left, s)
		}
	}
}

// Each statement is one over what those ahead of it left; what is left is the state behind the last one.
func TestP174OneBehindTheOther(t *testing.T) {
	c := one(99, 999, params("k I", "l I"), "SELECT COUNT(*), SUM(b) FROM t", "INSERT INTO t VALUES (:k, :l)", "UPDATE t SET a = a + 10 WHERE a = :k", "SELECT a, b FROM t", "DELETE FROM t WHERE b = 5", "INSERT INTO t VALUES (:k, NULL)", "SELECT a, b FROM t ORDER BY 1 DESC")
	mustMean(t, c, state("1 5; 2 5", ""), call("p", "3 4"), "(2 10) 0, () 1, () 1, (1 5; 2 5; 13 4) 0, () 2, () 1, (13 4; 3 NULL) 0", "3 NULL; 13 4 | ")
	mustMean(t, c, state("", ""), call("p", "3 5"), "(0 NULL) 0, () 1, () 1, (13 5) 0, () 1, () 1, (3 NULL) 0", "3 NULL | ")
	mustMean(t, c, state("5 9; 15 5", ""), call("p", "6 NULL"), "(2 14) 0, () 1, () 1, (5 9; 15 5; 16 NULL) 0, () 1, () 1, (16 NULL; 6 NULL; 5 9) 0", "5 9; 6 NULL; 16 NULL | ")
	mustMean(t, c, state("5 9; 15 5", ""), call("p", "5 4"), wrong(api.ErrUnique, 1), "5 9; 15 5 | ")
	mustMean(t, c, state("15 9", ""), call("p", "5 4"), wrong(api.ErrUnique, 2), "15 9 | ")
	mustMean(t, c, state("1 9", ""), call("p", "NULL 4"), wrong(api.ErrNotNull, 1), "1 9 | ")
}

// An error ends a call at its statement; nothing of those ahead of it is left, and none behind it is asked.
func TestP174Errors(t *testing.T) {
	most := "4611686018427387904"
	for _, x := range []struct {
		source string
		e      api.Errno
	}{
		{"SELECT 1 / (a - 2) FROM t", api.ErrZero}, {"UPDATE t SET b = b + " + most, api.ErrOverflow}, {"INSERT INTO t VALUES (1, 1)", api.ErrUnique}, {"UPDATE t SET a = 7", api.ErrUnique}, {"UPDATE t SET a = NULL", api.ErrNotNull}, {"INSERT INTO w VALUES (7, TRUE, 5, 'b')", api.ErrUnique}, {"DELETE FROM t WHERE a / 0 = 1", api.ErrZero},
	} {
		for at := range 4 {
			body := []string{"UPDATE t SET b = b + 1", "DELETE FROM w WHERE k = 3", "SELECT * FROM t", "INSERT INTO w VALUES (9, FALSE, 9, 'z')"}
			body = append(slices.Insert(body, at, x.source), "SELECT 1 / 0, a + "+most+" FROM t")
			mustMean(t, one(99, 999, nil, body...), state("1 5; 2 5", "1 TRUE 5 'a'; 3 NULL NULL 'a'"), call("p", ""), wrong(x.e, at), "1 5; 2 5 | 1 TRUE 5 'a'; 3 NULL NULL 'a'")
		}
	}
}

func TestP174RowsOfTheBudget(t *testing.T) {
	s := state("1 5; 2 5; 3 6", "")
	for _, x := range []struct {
		body string
		sums []int
	}{
		{"SELECT a FROM t", []int{3}},
		{"SELECT a FROM t LIMIT 2", []int{2}},
		{"SELECT COUNT(*) FROM t", []int{1}},
		{"SELECT b, COUNT(*) FROM t GROUP BY b", []int{2}},
		{"SELECT a FROM t WHERE a > 9", []int{0}},
		{"UPDATE t SET b = 0", []int{3}},
		{"UPDATE t SET b = 0 WHERE b = 5", []int{2}},
		{"DELETE FROM t WHERE a = 3", []int{1}},
		{"DELETE FROM t WHERE a = 9", []int{0}},
		{"INSERT INTO t VALUES (4, 4)", []int{1}},
		{"INSERT INTO t VALUES (4, 4); SELECT a FROM t; DELETE FROM t WHERE b = 5; SELECT a FROM t", []int{1, 5, 7, 9}},
		{"SELECT a FROM t; SELECT a FROM t; SELECT a FROM t WHERE a = 1", []int{3, 6, 7}},
		{"DELETE FROM t; DELETE FROM t; INSERT INTO t VALUES (1, 1)", []int{3, 3, 4}},
		{"SELECT a FROM t; UPDATE t SET b = NULL", []int{3, 6}},
	} {
		body := strings.Split(x.body, "; ")
		for rows := range 12 {
			b := book(t, one(rows, 9999, nil, body...))
			over := slices.IndexFunc(x.sums, func(n int) bool { return n > rows })
			r, left := b.Mean(s, call("p", ""))
			store := stored(t, b.Catalog(), 2, s)
			got := b.Call(store, call("p", ""))
			if over < 0 && (r.Code != api.OK || len(r.Results) != len(body)) || over >= 0 && (shownReply(r) != wrong(api.ErrBudget, over) || shownState(left) != shownState(s)) {
				t.Errorf("%s, %d rows: %s, %s; over at %d", x.body, rows, shownReply(r), shownState(left), over)
			}
			if shownReply(got) != shownReply(r) || shownState(store.State()) != shownState(left) {
				t.Errorf("%s, %d rows: Call: %s, %s", x.body, rows, shownReply(got), shownState(store.State()))
			}
		}
	}
}

// What the rows that are told weigh, all of them together; rows that are changed weigh nothing.
func TestP174BytesOfTheBudget(t *testing.T) {
	text := strings.Repeat("x", 64)
	s := state("1 5; 2 -64; 3 4611686018427387904", "1 TRUE NULL '"+text+"'; 2 NULL 7 ''")
	for _, x := range []struct {
		body string
		rows []string
	}{
		{"SELECT a FROM t", []string{"1; 2; 3"}},
		{"SELECT b FROM t", []string{"5; -64; 4611686018427387904"}},
		{"SELECT * FROM w", []string{"1 TRUE NULL '" + text + "'; 2 NULL 7 ''"}},
		{"SELECT a FROM t WHERE FALSE", []string{""}},
		{"SELECT NULL, NULL, NULL, NULL, NULL FROM t LIMIT 2", []string{"NULL NULL NULL NULL NULL; NULL NULL NULL NULL NULL"}},
		{"SELECT o FROM w; SELECT a FROM t; SELECT m FROM w", []string{"'" + text + "'; ''", "1; 2; 3", "TRUE; NULL"}},
		{"UPDATE w SET o = 'y'; SELECT o FROM w; DELETE FROM t", []string{"", "'y'; 'y'", ""}},
		{"SELECT COUNT(*) FROM t JOIN w ON TRUE; INSERT INTO t VALUES (4, 4)", []string{"6", ""}},
	} {
		var sums []int
		sum := 0
		for _, rows := range state(x.rows...).Tables {
			for _, l := range rows {
				bytes, e := row.Encode(l...)
				if e != api.OK {
					t.Fatal(e)
				}
				sum += len(bytes)
			}
			sums = append(sums, sum)
		}
		for bytes := range sum + 3 {
			b := book(t, one(999, bytes, nil, strings.Split(x.body, "; ")...))
			over := slices.IndexFunc(sums, func(n int) bool { return n > bytes })
			r, left := b.Mean(s, call("p", ""))
			store := stored(t, b.Catalog(), 2, s)
			got := b.Call(store, call("p", ""))
			if over < 0 && (r.Code != api.OK || len(r.Results) != len(sums)) || over >= 0 && (shownReply(r) != wrong(api.ErrBudget, over) || shownState(left) != shownState(s)) {
				t.Errorf("%s, %d bytes: %s, %s; over at %d", x.body, bytes, shownReply(r), shownState(left), over)
			}
			if shownReply(got) != shownReply(r) || shownState(store.State()) != shownState(left) {
				t.Errorf("%s, %d bytes: Call: %s, %s", x.body, bytes, shownReply(got), shownState(store.State()))
			}
		}
	}
}

// Of the same statement another error is told, not the budget's; of an earlier one the budget's.
func TestP174TheBudgetIsAskedBehindAStatement(t *testing.T) {
	s := state("1 5; 2 5", "")
	mustMean(t, one(0, 0, nil, "SELECT 1 / 0 FROM t"), s, call("p", ""), wrong(api.ErrZero, 0), "1 5; 2 5 | ")
	mustMean(t, one(0, 0, nil, "INSERT INTO t VALUES (1, 1)"), s, call("p", ""), wrong(api.ErrUnique, 0), "1 5; 2 5 | ")
	mustMean(t, one(1, 99, nil, "SELECT a FROM t", "INSERT INTO t VALUES (1, 1)"), s, call("p", ""), wrong(api.ErrBudget, 0), "1 5; 2 5 | ")
	mustMean(t, one(2, 99, nil, "SELECT a FROM t", "INSERT INTO t VALUES (1, 1)"), s, call("p", ""), wrong(api.ErrUnique, 1), "1 5; 2 5 | ")
	mustMean(t, one(2, 99, nil, "SELECT a FROM t", "INSERT INTO t VALUES (3, 1)", "SELECT 1 / 0 FROM t"), s, call("p", ""), wrong(api.ErrBudget, 1), "1 5; 2 5 | ")
	mustMean(t, one(0, 0, nil, "SELECT a FROM t WHERE FALSE", "DELETE FROM t WHERE a = 3"), s, call("p", ""), "() 0, () 0", "1 5; 2 5 | ")
	mustMean(t, one(1, 0, nil, "DELETE FROM t WHERE a = 1"), s, call("p", ""), "() 1", "2 5 | ")
	mustMean(t, one(1, 2, nil, "SELECT TRUE FROM t LIMIT 1"), s, call("p", ""), wrong(api.ErrBudget, 0), "1 5; 2 5 | ")
	mustMean(t, one(1, 3, nil, "SELECT TRUE FROM t LIMIT 1"), s, call("p", ""), "(TRUE) 0", "1 5; 2 5 | ")
}

// Another catalog's store is told of first, whatever the call is.
func TestP175OtherStores(t *testing.T) {
	b := book(t, chapter())
	others := []api.Catalog{{}, {Tables: chapter().Tables}, one(1, 1, nil, "SELECT a FROM t")}
	for _, change := range []func(c *api.Catalog){
		func(c *api.Catalog) { c.Tables[0].Columns[1].Name = "c" },
		func(c *api.Catalog) { c.Tables[0].Columns[1].NotNull = true },
		func(c *api.Catalog) { c.Tables[0].Indexes = []api.Index{{Name: "i", Columns: []int{1}}} },
		func(c *api.Catalog) { c.Procs[2].Rows++ },
		func(c *api.Catalog) { c.Procs[2].Body[0] += " " },
		func(c *api.Catalog) { c.Procs[0], c.Procs[1] = c.Procs[1], c.Procs[0] },
		func(c *api.Catalog) { c.Procs = c.Procs[:2] },
	} {
		c := chapter()
		change(&c)
		others = append(others, c)
	}
	for _, c := range others {
		store, e := table.New(c, 2)
		if e != api.OK {
			t.Fatal(e)
		}
		before := shownState(store.State())
		for _, x := range []api.Call{call("put", "3 1"), call("few", ""), call("none", ""), call("put", ""), {}} {
			if r := b.Call(store, x); shownReply(r) != wrong(api.ErrState, 0) || shownState(store.State()) != before {
				t.Errorf("%+v: %s", c, shownReply(r))
			}
			if b.Begin(store, x) != nil {
				t.Errorf("%+v: a run", c)
			}
		}
	}
	for _, x := range []api.Call{call("put", "3 1"), call("none", ""), {}} {
		if r := b.Call(nil, x); shownReply(r) != wrong(api.ErrState, 0) || b.Begin(nil, x) != nil {
			t.Error(r)
		}
	}
	// One that is defined just so is the same, with however many partitions, and with empty lists for none.
	c := chapter()
	c.Tables[0].Indexes = []api.Index{}
	c.Procs[2].Params = []api.Param{}
	for parts := 1; parts <= 16; parts++ {
		if r := b.Call(stored(t, c, parts, state("1 5")), call("few", "")); shownReply(r) != "(1) 0" {
			t.Error(parts, shownReply(r))
		}
	}
}

// met is a store whose state isn't right: works that were undone by turns have left rows that meet in the index y of w.
func met(t *testing.T, c api.Catalog) *table.Store {
	t.Helper()
	store := stored(t, c, 2, state("1 5", "1 TRUE 5 'a'; 4 TRUE 6 'b'"))
	a, b := store.Begin(), store.Begin()
	if e := a.Change(1, state("1 TRUE 5 'a'").Tables[0], nil); e != api.OK {
		t.Fatal(e)
	}
	if e := b.Change(1, nil, state("2 NULL 5 'a'").Tables[0]); e != api.OK {
		t.Fatal(e)
	}
	b.Done()
	a.Undo()
	if s := store.State(); denote.Right(c, s) || shownState(s) != "1 5 | 1 TRUE 5 'a'; 2 NULL 5 'a'; 4 TRUE 6 'b'" {
		t.Fatal(shownState(s))
	}
	return store
}

func TestP175StateIsNotRight(t *testing.T) {
	for _, source := range []string{"SELECT a FROM t", "DELETE FROM t", "DELETE FROM w WHERE k = 1", "INSERT INTO t VALUES (2, 2)", "SELECT 1 / 0 FROM t"} {
		c := one(99, 999, nil, source, "SELECT a FROM t")
		c.Procs = append(c.Procs, api.Proc{Name: "q", Params: params("k I"), Body: []string{source}})
		b, store := book(t, c), met(t, c)
		s := store.State()
		for _, x := range []api.Call{call("p", ""), call("q", "1"), call("p", "1"), call("none", ""), {}} {
			want, left := b.Mean(s, x)
			if shownState(left) != shownState(s) || x.Proc == "p" && x.Args == nil && shownReply(want) != wrong(api.ErrState, 0) {
				t.Errorf("%s: %s, %s", source, shownReply(want), shownState(left))
			}
			if r := b.Call(store, x); shownReply(r) != shownReply(want) || shownState(store.State()) != shownState(s) {
				t.Errorf("%s: %s, %s; want %s", source, shownReply(r), shownState(store.State()), shownReply(want))
			}
			run := b.Begin(store, x)
			for !run.Step() {
			}
			if r, over := run.Reply(); !over || shownReply(r) != shownReply(want) || shownState(store.State()) != shownState(s) {
				t.Errorf("%s: %s, %t, %s; want %s", source, shownReply(r), over, shownState(store.State()), shownReply(want))
			}
		}
	}
}
