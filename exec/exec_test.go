package exec_test

import (
	"slices"
	"strings"
	"testing"

	"unison/api"
	"unison/check"
	"unison/denote"
	"unison/exec"
	"unison/plan"
	"unison/syntax"
	"unison/table"
	"unison/value"
)

// defined are the chapter's table t; u, whose key is two columns, the last one first; w, which has an index of each kind; and one, a single truth.
func defined() api.Catalog {
	return api.Catalog{Tables: []api.Table{
		{Name: "t", Columns: columns("a! I", "b T"), Key: []int{0}, Indexes: []api.Index{{Name: "i", Columns: []int{1}}}},
		{Name: "u", Columns: columns("d! I", "c! I", "e T"), Key: []int{1, 0}, Indexes: []api.Index{{Name: "j", Columns: []int{0}}}},
		{Name: "w", Columns: columns("k! I", "m B", "n I", "o T"), Key: []int{0}, Indexes: []api.Index{
			{Name: "x", Columns: []int{2}}, {Name: "y", Columns: []int{2, 3}, Unique: true}, {Name: "z", Columns: []int{3, 2, 1}}, {Name: "v", Columns: []int{1, 0}},
		}},
		{Name: "one", Columns: columns("b! B"), Key: []int{0}},
	}}
}

// columns are some, each written as its name, with ! if it is NotNull, and the first letter of its type.
func columns(l ...string) []api.Column {
	var out []api.Column
	for _, s := range l {
		name, kind, _ := strings.Cut(s, " ")
		plain := strings.TrimSuffix(name, "!")
		out = append(out, api.Column{Name: plain, Type: strings.Index(" IBT", kind), NotNull: plain != name})
	}
	return out
}

func given() []api.Param {
	return []api.Param{{Name: "p", Type: api.Int}, {Name: "q", Type: api.Bool}, {Name: "r", Type: api.Text}}
}

// handed are arguments for given().
func handed() []api.Value { return list("2 TRUE 'x'") }

// list are the values of literals with blanks between.
func list(s string) []api.Value {
	var l []api.Value
	for _, word := range strings.Fields(s) {
		v, e := value.Parse(word)
		if e != api.OK {
			panic(word)
		}
		l = append(l, v)
	}
	return l
}

// rowsOf is rows, each but the last with a semicolon behind it.
func rowsOf(s string) [][]api.Value {
	var rows [][]api.Value
	for row := range strings.SplitSeq(s, ";") {
		if l := list(row); len(l) > 0 {
			rows = append(rows, l)
		}
	}
	return rows
}

// state is the tables of defined(), the last of which may be left out if they have no rows.
func state(l ...string) api.State {
	s := denote.Empty(defined())
	for i, rows := range l {
		s.Tables[i] = rowsOf(rows)
	}
	return s
}

// chapter is the state of the chapter's examples, with rows in the other tables.
func chapter() api.State {
	return state("1 'x'; 2 NULL; 3 'x'", "3 1 'p'; 5 1 NULL; 1 2 'q'; 3 2 'p'; 3 3 NULL", "1 TRUE 5 'a'; 2 FALSE NULL 'b'; 3 NULL 5 NULL; 4 FALSE 4 'a'; 5 TRUE NULL 'a'; 6 TRUE -4 'b'", "FALSE")
}

func shown(rows [][]api.Value) string {
	var out []string
	for _, row := range rows {
		var l []string
		for _, v := range row {
			s, e := value.Print(v)
			if e != api.OK {
				s = "?"
			}
			l = append(l, s)
		}
		out = append(out, strings.Join(l, " "))
	}
	return strings.Join(out, "; ")
}

func shownState(s api.State) string {
	var out []string
	for _, rows := range s.Tables {
		out = append(out, shown(rows))
	}
	return strings.Join(out, " | ")
}

func typed(t *testing.T, source string) api.Typed {
	t.Helper()
	s, f := syntax.Parse(source)
	x, g := check.Check(defined(), given(), s)
	if f != (api.Fault{}) || g != (api.Fault{}) {
		t.Fatal(source, f, g)
	}
	return x
}

func planned(t *testing.T, source string) api.Plan {
	t.Helper()
	p, e := plan.Make(defined(), given(), typed(t, source))
	if e != api.OK {
		t.Fatal(source, e)
	}
	return p
}

// by is the plan of a source with other accesses.
func by(t *testing.T, source string, l ...api.Access) api.Plan {
	t.Helper()
	p := planned(t, source)
	for i := range l {
		l[i].Table = p.Typed.Tables[i]
	}
	p.Access = l
	if !plan.Right(defined(), given(), p) {
		t.Fatalf("%s by %+v is not right", source, l)
	}
	return p
}

// of are the terms of literals with blanks between.
func of(s string) []api.Term {
	var l []api.Term
	for _, v := range list(s) {
		l = append(l, api.Term{Op: api.ExprValue, Type: v.Kind, Value: v})
	}
	return l
}

func param(place int) api.Term {
	return api.Term{Op: api.ExprParam, Num: place, Type: given()[place].Type}
}

func column(place, kind int) api.Term {
	return api.Term{Op: api.ExprColumn, Num: place, Type: kind}
}

func terms(l ...api.Term) []api.Term { return l }

func all() api.Access { return api.Access{Way: api.WayAll} }

// stored is a store that has a state, in so many partitions.
func stored(t *testing.T, c api.Catalog, parts int, s api.State) *table.Store {
	t.Helper()
	x, e := table.New(c, parts)
	if e != api.OK {
		t.Fatal(e)
	}
	if e := x.Load(s); e != api.OK {
		t.Fatal(shownState(s), e)
	}
	return x
}

// mustTell holds the rows that a select tells against those that are wanted, in few partitions and in many.
func mustTell(t *testing.T, s api.State, p api.Plan, want string) {
	t.Helper()
	for _, parts := range []int{1, 3, 16} {
		x := stored(t, defined(), parts, s)
		r, e := exec.Run(x.Begin(), given(), p, handed()...)
		if got := shown(r.Rows); got != want || r.Count != 0 || e != api.OK {
			t.Errorf("%s, %d, %v; want %s", got, r.Count, e, want)
		}
		if got := shownState(x.State()); got != shownState(s) {
			t.Errorf("leaves %s", got)
		}
	}
}

// mustLeave holds how many rows come or go, and what is in one of the tables then, against what is wanted; and that it is taken back.
func mustLeave(t *testing.T, s api.State, p api.Plan, count int, want string) {
	t.Helper()
	for _, parts := range []int{1, 3, 16} {
		x := stored(t, defined(), parts, s)
		w := x.Begin()
		r, e := exec.Run(w, given(), p, handed()...)
		if r.Rows != nil || r.Count != count || e != api.OK {
			t.Errorf("%s, %d, %v; want %d", shown(r.Rows), r.Count, e, count)
		}
		wanted := slices.Clone(s.Tables)
		wanted[p.Typed.Tables[0]] = rowsOf(want)
		if got, w := shownState(x.State()), shownState(api.State{Tables: wanted}); got != w {
			t.Errorf("leaves %s; want %s", got, w)
		}
		if w.Undo(); shownState(x.State()) != shownState(s) {
			t.Errorf("undone: %s", shownState(x.State()))
		}
	}
}

// mustFail holds the error of a plan against the one that is wanted; the state stays.
func mustFail(t *testing.T, s api.State, p api.Plan, want api.Errno) {
	t.Helper()
	for _, parts := range []int{1, 3, 16} {
		x := stored(t, defined(), parts, s)
		w := x.Begin()
		r, e := exec.Run(w, given(), p, handed()...)
		if r.Rows != nil || r.Count != 0 || e != want {
			t.Errorf("%s, %d, %v; want %v", shown(r.Rows), r.Count, e, want)
		}
		if got := shownState(x.State()); got != shownState(s) {
			t.Errorf("leaves %s", got)
		}
		if w.Undo(); shownState(x.State()) != shownState(s) {
			t.Errorf("undone: %s", shownState(x.State()))
		}
	}
}

func TestExamples(t *testing.T) {
	s := state("1 'x'; 2 NULL; 3 'x'")
	p := planned(t, "SELECT a FROM t WHERE b = 'x'")
	if p.Access[0].Way != api.WayIndex {
		t.Error(p.Access)
	}
	mustTell(t, s, p, "1; 3")
	mustLeave(t, s, planned(t, "UPDATE t SET b = 'y' WHERE a >= 2"), 2, "1 'x'; 2 'y'; 3 'y'")
	mustTell(t, s, by(t, "SELECT a FROM t", api.Access{Way: api.WayKey, Fixed: of("3")}), "3")
	mustFail(t, s, planned(t, "INSERT INTO t VALUES (3, 'z')"), api.ErrUnique)
}

func TestP161WorkIsNoneOrOver(t *testing.T) {
	p := planned(t, "SELECT a FROM t WHERE a = :p")
	for _, end := range []func(x *table.Store, w *table.Work){
		func(x *table.Store, w *table.Work) { w.Undo() },
		func(x *table.Store, w *table.Work) { w.Done() },
		func(x *table.Store, w *table.Work) { x.Load(chapter()) },
	} {
		x := stored(t, defined(), 2, chapter())
		w := x.Begin()
		if r, e := exec.Run(w, given(), p, handed()...); shown(r.Rows) != "2" || e != api.OK {
			t.Error(r, e)
		}
		end(x, w)
		for _, q := range []api.Plan{p, planned(t, "INSERT INTO t VALUES (9, 'z')"), planned(t, "DELETE FROM t"), planned(t, "UPDATE t SET b = 'z'"), {}} {
			for _, args := range [][]api.Value{handed(), nil} {
				if r, e := exec.Run(w, given(), q, args...); r.Rows != nil || r.Count != 0 || e != api.ErrArg {
					t.Error(r, e)
				}
			}
		}
		if got := shownState(x.State()); got != shownState(chapter()) {
			t.Error(got)
		}
	}
	for _, q := range []api.Plan{p, {}} {
		if r, e := exec.Run(nil, given(), q); r.Rows != nil || r.Count != 0 || e != api.ErrArg {
			t.Error(r, e)
		}
	}
}

func TestP161PlanIsNotRight(t *testing.T) {
	x := stored(t, defined(), 2, chapter())
	w := x.Begin()
	for i, change := range []func(p *api.Plan){
		func(p *api.Plan) { *p = api.Plan{} },
		func(p *api.Plan) { p.Access = nil },
		func(p *api.Plan) { p.Access = append(p.Access, p.Access[0]) },
		func(p *api.Plan) { p.Access[0].Table = 1 },
		func(p *api.Plan) { p.Access[0].Way = 0 },
		func(p *api.Plan) { p.Access[0].Way = 4 },
		func(p *api.Plan) { p.Access[0].Way = api.WayAll },
		func(p *api.Plan) { p.Access[0].Index = 1 },
		func(p *api.Plan) { p.Access[0].Fixed = nil },
		func(p *api.Plan) { p.Access[0].Fixed = of("'x'") },
		func(p *api.Plan) { p.Access[0].Fixed = of("1 2") },
		func(p *api.Plan) { p.Access[0].Fixed = terms(column(0, api.Int)) },
		func(p *api.Plan) { p.Access[0].Fixed = terms(api.Term{Op: api.ExprParam, Num: 3, Type: api.Int}) },
		func(p *api.Plan) { p.Access[0].Low = of("1") },
		func(p *api.Plan) { p.Access[0].LowOpen = true },
		func(p *api.Plan) { p.Typed.Kind = api.StmtInsert },
		func(p *api.Plan) { p.Typed.Kind = 5 },
		func(p *api.Plan) { p.Typed.Tables = []int{4} },
		func(p *api.Plan) { p.Typed.Items = nil },
		func(p *api.Plan) { p.Typed.Where[0].Type = api.Int },
		func(p *api.Plan) { p.Typed.Limit = []int{-1} },
	} {
		p := planned(t, "SELECT a FROM t WHERE a = :p")
		change(&p)
		for _, args := range [][]api.Value{handed(), nil} {
			if r, e := exec.Run(w, given(), p, args...); r.Rows != nil || r.Count != 0 || e != api.ErrPlan {
				t.Error(i, r, e)
			}
		}
	}
	// Right, but with other parameters, and for another catalog.
	p := planned(t, "SELECT a FROM t WHERE a = :p")
	for _, params := range [][]api.Param{nil, {{Name: "p", Type: api.Text}}, {{Name: "p", Type: api.Int}, {Name: "p", Type: api.Int}}, {{Name: "", Type: api.Int}}} {
		if r, e := exec.Run(w, params, p, handed()...); r.Rows != nil || e != api.ErrPlan {
			t.Error(params, r, e)
		}
	}
	p = planned(t, "DELETE FROM w WHERE n = 5")
	c := defined()
	c.Tables = c.Tables[:2]
	s := chapter()
	s.Tables = s.Tables[:2]
	other := stored(t, c, 1, s)
	if r, e := exec.Run(other.Begin(), given(), p, handed()...); r.Count != 0 || e != api.ErrPlan {
		t.Error(r, e)
	}
	if got := shownState(x.State()); got != shownState(chapter()) {
		t.Error(got)
	}
}

func TestP161Args(t *testing.T) {
	x := stored(t, defined(), 2, chapter())
	w := x.Begin()
	long := api.Value{Kind: api.Text, Text: strings.Repeat("x", 65)}
	for _, source := range []string{"SELECT a FROM t WHERE a = :p", "DELETE FROM t", "INSERT INTO t VALUES (9, :r)", "UPDATE t SET b = :r"} {
		for _, args := range [][]api.Value{
			nil, list("2 TRUE"), list("2 TRUE 'x' 4"), list("'x' TRUE 'x'"), list("2 2 'x'"), list("2 TRUE FALSE"), {{Kind: 4}, {}, {}},
			{{Kind: api.Int, Int: 1<<62 + 1}, {}, {}}, {{Int: 1}, {}, {}}, {{}, {Kind: api.Bool, Int: 2}, {}}, {{}, {}, long}, {{}, {}, {Kind: api.Text, Int: 1}}, {{Kind: api.Int, Text: "x"}, {}, {}},
		} {
			if r, e := exec.Run(w, given(), planned(t, source), args...); r.Rows != nil || r.Count != 0 || e != api.ErrArgs {
				t.Error(source, args, r, e)
			}
		}
	}
	if got := shownState(x.State()); got != shownState(chapter()) {
		t.Error(got)
	}
	p := planned(t, "SELECT :p, :q, :r FROM one")
	for _, args := range []string{"2 TRUE 'x'", "NULL NULL NULL", "-4611686018427387904 FALSE '" + strings.Repeat("x", 64) + "'"} {
		if r, e := exec.Run(w, given(), p, list(args)...); shown(r.Rows) != args || e != api.OK {
			t.Error(args, r, e)
		}
	}
	p, _ = plan.Make(defined(), nil, typed(t, "SELECT b FROM one"))
	if r, e := exec.Run(w, nil, p); shown(r.Rows) != "FALSE" || e != api.OK {
		t.Error(r, e)
	}
	if r, e := exec.Run(w, nil, p, api.Value{}); r.Rows != nil || e != api.ErrArgs {
		t.Error(r, e)
	}
}

// keyed is an access by the key.
func keyed(a api.Access) api.Access {
	a.Way = api.WayKey
	return a
}

// indexed is an access by the index of a place.
func indexed(place int, a api.Access) api.Access {
	a.Way, a.Index = api.WayIndex, place
	return a
}

func TestP161AccessesByKey(t *testing.T) {
	s := state("-4611686018427387904 'a'; -1 'b'; 0 NULL; 1 'c'; 2 'c'; 4611686018427387904 'd'")
	for _, x := range []struct {
		access api.Access
		want   string
	}{
		{api.Access{Fixed: of("1")}, "1"},
		{api.Access{Fixed: of("3")}, ""},
		{api.Access{Fixed: of("NULL")}, ""},
		{api.Access{Fixed: terms(param(0))}, "2"},
		{api.Access{Low: of("1")}, "1; 2; 4611686018427387904"},
		{api.Access{Low: of("1"), LowOpen: true}, "2; 4611686018427387904"},
		{api.Access{Low: of("4611686018427387904")}, "4611686018427387904"},
		{api.Access{Low: of("4611686018427387904"), LowOpen: true}, ""},
		{api.Access{Low: of("NULL")}, ""},
		{api.Access{Low: of("NULL"), LowOpen: true}, ""},
		{api.Access{High: of("1")}, "-4611686018427387904; -1; 0; 1"},
		{api.Access{High: of("1"), HighOpen: true}, "-4611686018427387904; -1; 0"},
		{api.Access{High: of("NULL")}, ""},
		{api.Access{High: of("NULL"), HighOpen: true}, ""},
		{api.Access{Low: of("0"), High: of("1")}, "0; 1"},
		{api.Access{Low: of("0"), High: of("1"), LowOpen: true}, "1"},
		{api.Access{Low: of("0"), High: of("1"), HighOpen: true}, "0"},
		{api.Access{Low: of("0"), High: of("1"), LowOpen: true, HighOpen: true}, ""},
		{api.Access{Low: of("1"), High: of("1")}, "1"},
		{api.Access{Low: of("1"), High: of("1"), LowOpen: true}, ""},
		{api.Access{Low: of("1"), High: of("1"), HighOpen: true}, ""},
		{api.Access{Low: of("2"), High: of("0")}, ""},
		{api.Access{Low: of("NULL"), High: of("1")}, ""},
		{api.Access{Low: of("0"), High: of("NULL")}, ""},
	} {
		mustTell(t, s, by(t, "SELECT a FROM t", keyed(x.access)), x.want)
	}
	mustTell(t, s, by(t, "SELECT a FROM t", all()), "-4611686018427387904; -1; 0; 1; 2; 4611686018427387904")
}

// The first few columns of a key of two, the last one first.
func TestP161AccessesByPartsOfAKey(t *testing.T) {
	s := chapter()
	for _, x := range []struct {
		access api.Access
		want   string
	}{
		{api.Access{Fixed: of("1")}, "1 3; 1 5"},
		{api.Access{Fixed: of("1 5")}, "1 5"},
		{api.Access{Fixed: of("1 4")}, ""},
		{api.Access{Fixed: of("NULL 3")}, ""},
		{api.Access{Fixed: of("1 NULL")}, ""},
		{api.Access{Fixed: of("1"), Low: of("3"), LowOpen: true}, "1 5"},
		{api.Access{Fixed: of("1"), Low: of("3")}, "1 3; 1 5"},
		{api.Access{Fixed: of("2"), High: of("3")}, "2 1; 2 3"},
		{api.Access{Fixed: of("2"), High: of("3"), HighOpen: true}, "2 1"},
		{api.Access{Fixed: of("2"), Low: of("1"), High: of("3"), LowOpen: true, HighOpen: true}, ""},
		{api.Access{Fixed: of("2"), Low: of("1"), High: of("9"), LowOpen: true, HighOpen: true}, "2 3"},
		{api.Access{Low: of("2")}, "2 1; 2 3; 3 3"},
		{api.Access{Low: of("2"), LowOpen: true}, "3 3"},
		{api.Access{High: of("2")}, "1 3; 1 5; 2 1; 2 3"},
		{api.Access{High: of("2"), HighOpen: true}, "1 3; 1 5"},
	} {
		mustTell(t, s, by(t, "SELECT c, d FROM u", keyed(x.access)), x.want)
	}
}

// By an index too rows come by rising keys; a NULL is at or below nothing.
func TestP161AccessesByAnIndex(t *testing.T) {
	s := chapter()
	for _, x := range []struct {
		access api.Access
		want   string
	}{
		{indexed(0, api.Access{Fixed: of("5")}), "1; 3"},
		{indexed(0, api.Access{Fixed: of("NULL")}), ""},
		{indexed(0, api.Access{Low: of("0")}), "1; 3; 4"},
		{indexed(0, api.Access{Low: of("4"), LowOpen: true}), "1; 3"},
		{indexed(0, api.Access{High: of("5")}), "1; 3; 4; 6"},
		{indexed(0, api.Access{High: of("5"), HighOpen: true}), "4; 6"},
		{indexed(0, api.Access{Low: of("4"), High: of("5")}), "1; 3; 4"},
		{indexed(1, api.Access{Fixed: of("5")}), "1; 3"},
		{indexed(1, api.Access{Fixed: of("5 'a'")}), "1"},
		{indexed(1, api.Access{Fixed: of("5"), High: of("'z'")}), "1"},
		{indexed(1, api.Access{Fixed: of("5"), Low: of("''")}), "1"},
		{indexed(1, api.Access{Fixed: of("5"), High: of("'a'"), HighOpen: true}), ""},
		{indexed(2, api.Access{Fixed: of("'a'")}), "1; 4; 5"},
		{indexed(2, api.Access{Fixed: of("'a'"), High: of("5"), HighOpen: true}), "4"},
		{indexed(2, api.Access{Fixed: of("'a'"), High: of("5")}), "1; 4"},
		{indexed(2, api.Access{Fixed: of("'a'"), Low: of("0")}), "1; 4"},
		{indexed(2, api.Access{Fixed: of("'a' 4"), Low: of("FALSE")}), "4"},
		{indexed(2, api.Access{Fixed: of("'a' 4"), Low: of("FALSE"), LowOpen: true}), ""},
		{indexed(2, api.Access{Fixed: of("'a' 4 FALSE")}), "4"},
		{indexed(2, api.Access{High: of("'b'")}), "1; 2; 4; 5; 6"},
		{indexed(2, api.Access{Low: of("'a'"), LowOpen: true}), "2; 6"},
		{indexed(3, api.Access{Fixed: of("TRUE")}), "1; 5; 6"},
		{indexed(3, api.Access{Fixed: of("TRUE"), Low: of("1"), LowOpen: true}), "5; 6"},
		{indexed(3, api.Access{High: of("TRUE")}), "1; 2; 4; 5; 6"},
		{indexed(3, api.Access{High: of("TRUE"), HighOpen: true}), "2; 4"},
		{indexed(3, api.Access{Low: of("FALSE")}), "1; 2; 4; 5; 6"},
	} {
		mustTell(t, s, by(t, "SELECT k FROM w", x.access), x.want)
	}
	mustTell(t, s, by(t, "SELECT d, c FROM u", indexed(0, api.Access{Low: of("2")})), "3 1; 5 1; 3 2; 3 3")
	mustTell(t, s, by(t, "SELECT d, c FROM u LIMIT 2", indexed(0, api.Access{Low: of("1")})), "3 1; 5 1")
}

// Texts of noughts, and of the highest bytes, are no beginnings of one another as keys.
func TestP161AccessesByTexts(t *testing.T) {
	texts := []string{"", "\x00", "\x00\x00", "\x00\xff", "\x01", "a", "a\x00", "a\x00b", "ab", "\xff", "\xff\xff"}
	s := state()
	for i, text := range texts {
		s.Tables[0] = append(s.Tables[0], []api.Value{{Kind: api.Int, Int: i}, {Kind: api.Text, Text: text}})
	}
	for i, text := range texts {
		at := []api.Term{{Op: api.ExprValue, Type: api.Text, Value: api.Value{Kind: api.Text, Text: text}}}
		for _, x := range []struct {
			access   api.Access
			from, to int
		}{
			{api.Access{Fixed: at}, i, i + 1},
			{api.Access{Low: at}, i, len(texts)},
			{api.Access{Low: at, LowOpen: true}, i + 1, len(texts)},
			{api.Access{High: at}, 0, i + 1},
			{api.Access{High: at, HighOpen: true}, 0, i},
		} {
			var want [][]api.Value
			for _, row := range s.Tables[0][x.from:x.to] {
				want = append(want, row[:1])
			}
			mustTell(t, s, by(t, "SELECT a FROM t", indexed(0, x.access)), shown(want))
		}
	}
}

// The second table's rows are those of each pair.
func TestP161AccessesOfAJoin(t *testing.T) {
	s := chapter()
	first := column(0, api.Int)
	mustTell(t, s, by(t, "SELECT a, c, d FROM t JOIN u ON TRUE", all(), keyed(api.Access{Fixed: terms(first)})), "1 1 3; 1 1 5; 2 2 1; 2 2 3; 3 3 3")
	mustTell(t, s, by(t, "SELECT a, c, d FROM t JOIN u ON TRUE", all(), keyed(api.Access{Fixed: terms(first, first)})), "3 3 3")
	mustTell(t, s, by(t, "SELECT a, c, d FROM t JOIN u ON TRUE", keyed(api.Access{Low: of("2")}), keyed(api.Access{Fixed: of("1"), High: terms(first)})), "3 1 3")
	mustTell(t, s, by(t, "SELECT a, c, d FROM t JOIN u ON TRUE", indexed(0, api.Access{Fixed: of("'x'")}), indexed(0, api.Access{Fixed: terms(first)})), "1 2 1; 3 1 3; 3 2 3; 3 3 3")
	mustTell(t, s, by(t, "SELECT a, c, d FROM t JOIN u ON a <> 2 WHERE d = 3", all(), keyed(api.Access{High: terms(first), HighOpen: true})), "3 1 3; 3 2 3")
	mustTell(t, s, by(t, "SELECT k, a FROM w JOIN t ON TRUE", keyed(api.Access{High: of("3")}), indexed(0, api.Access{Low: terms(column(3, api.Text))})), "1 1; 1 3; 2 1; 2 3")
	mustTell(t, s, by(t, "SELECT COUNT(*) FROM t JOIN u ON TRUE", all(), all()), "15")
	mustTell(t, s, by(t, "SELECT COUNT(*) FROM t JOIN u ON TRUE", keyed(api.Access{Fixed: of("4")}), all()), "0")
	mustTell(t, s, by(t, "SELECT COUNT(*) FROM u JOIN one ON TRUE WHERE NOT b", indexed(0, api.Access{Fixed: of("3")}), keyed(api.Access{Fixed: of("FALSE")})), "3")
}

// What is not let through is neither worked out nor chosen.
func TestP161WhatIsNotLetThrough(t *testing.T) {
	s := chapter()
	mustTell(t, s, by(t, "SELECT 1 / (a - 2) FROM t", keyed(api.Access{Fixed: of("1")})), "-1")
	mustFail(t, s, by(t, "SELECT 1 / (a - 2) FROM t", keyed(api.Access{Low: of("2")})), api.ErrZero)
	mustTell(t, s, by(t, "SELECT a FROM t WHERE 1 / (a - 2) = 1", keyed(api.Access{Low: of("3")})), "3")
	mustFail(t, s, by(t, "SELECT a FROM t WHERE 1 / (a - 2) = 1", all()), api.ErrZero)
	mustTell(t, s, by(t, "SELECT a FROM t JOIN u ON 1 / (a - c) < 0 WHERE d = 1", all(), keyed(api.Access{Low: terms(column(0, api.Int)), LowOpen: true})), "1")
	mustFail(t, s, by(t, "SELECT a FROM t JOIN u ON 1 / (a - c) < 0 WHERE d = 1", all(), keyed(api.Access{Low: terms(column(0, api.Int))})), api.ErrZero)
	mustTell(t, s, by(t, "SELECT SUM(1 / (a - 2)), COUNT(*) FROM t", indexed(0, api.Access{Fixed: of("'x'")})), "0 2")
	mustFail(t, s, by(t, "SELECT SUM(1 / (a - 2)), COUNT(*) FROM t", all()), api.ErrZero)
	mustLeave(t, s, by(t, "UPDATE t SET b = 'y'", indexed(0, api.Access{Fixed: of("'x'")})), 2, "1 'y'; 2 NULL; 3 'y'")
	mustLeave(t, s, by(t, "UPDATE t SET a = 6 / (a - 2)", keyed(api.Access{Low: of("2"), LowOpen: true})), 1, "1 'x'; 2 NULL; 6 'x'")
	mustLeave(t, s, by(t, "DELETE FROM t", keyed(api.Access{High: of("2"), HighOpen: true})), 1, "2 NULL; 3 'x'")
	mustLeave(t, s, by(t, "DELETE FROM t WHERE b = 'x'", keyed(api.Access{High: of("2")})), 1, "2 NULL; 3 'x'")
	mustLeave(t, s, by(t, "DELETE FROM t", keyed(api.Access{Fixed: of("NULL")})), 0, "1 'x'; 2 NULL; 3 'x'")
	// The rows that stay are all of the table, let through or not.
	mustFail(t, s, by(t, "UPDATE t SET a = 2", keyed(api.Access{Fixed: of("1")})), api.ErrUnique)
	mustFail(t, s, by(t, "UPDATE w SET n = 5, o = 'a'", keyed(api.Access{Fixed: of("6")})), api.ErrUnique)
	mustLeave(t, s, by(t, "UPDATE t SET a = 2", keyed(api.Access{Fixed: of("2")})), 1, "1 'x'; 2 NULL; 3 'x'")
}

func TestP161Selects(t *testing.T) {
	s := chapter()
	tell := func(source, want string) {
		t.Helper()
		mustTell(t, s, planned(t, source), want)
	}
	tell("SELECT * FROM t", "1 'x'; 2 NULL; 3 'x'")
	tell("SELECT b, a + 1, NULL, :p FROM t", "'x' 2 NULL 2; NULL 3 NULL 2; 'x' 4 NULL 2")
	tell("SELECT b, COUNT(*) FROM t GROUP BY b", "NULL 1; 'x' 2")
	tell("SELECT a FROM t WHERE b = 'x' ORDER BY 1 DESC LIMIT 1", "3")
	tell("SELECT SUM(a), MIN(b), COUNT(*) FROM t WHERE a > 5", "NULL NULL 0")
	tell("SELECT b, MAX(a) FROM t WHERE a > 5 GROUP BY b", "")
	tell("SELECT a FROM t WHERE b <> 'x'", "")
	tell("SELECT m, COUNT(*), SUM(n), MIN(o), MAX(o), MIN(n), MAX(n) FROM w GROUP BY m", "NULL 1 5 NULL NULL 5 5; FALSE 2 4 'a' 'b' 4 4; TRUE 3 1 'a' 'b' -4 5")
	tell("SELECT o, m, o FROM w GROUP BY m, o", "NULL NULL NULL; 'a' FALSE 'a'; 'b' FALSE 'b'; 'a' TRUE 'a'; 'b' TRUE 'b'")
	tell("SELECT n, k FROM w ORDER BY 1 DESC", "5 1; 5 3; 4 4; -4 6; NULL 2; NULL 5")
	tell("SELECT n, k FROM w ORDER BY 1, 2 DESC LIMIT 5", "NULL 5; NULL 2; -4 6; 4 4; 5 3")
	tell("SELECT k FROM w LIMIT 0", "")
	tell("SELECT k FROM w LIMIT 1", "1")
	tell("SELECT k FROM w LIMIT 1000000", "1; 2; 3; 4; 5; 6")
	tell("SELECT COUNT(*) FROM w ORDER BY 1 LIMIT 1", "6")
	tell("SELECT COUNT(*) FROM w LIMIT 0", "")
	tell("SELECT a, c FROM t JOIN u ON a < c", "1 2; 1 2; 1 3; 2 3")
	tell("SELECT a, c FROM t JOIN u ON a < c WHERE d = 3 ORDER BY 2 DESC", "1 3; 2 3; 1 2")
	tell("SELECT c, a FROM u JOIN t ON a < c", "2 1; 2 1; 3 1; 3 2")
	tell("SELECT e, COUNT(*), SUM(a) FROM u JOIN t ON a = d GROUP BY e ORDER BY 2 DESC, 1", "'p' 2 6; NULL 1 3; 'q' 1 1")
	tell("SELECT SUM(k) FROM w WHERE n = 5 OR n IS NULL", "11")
	tell("SELECT 5 FROM one WHERE b = NULL", "")
}

func TestP161Changes(t *testing.T) {
	s := chapter()
	leave := func(source string, count int, want string) {
		t.Helper()
		mustLeave(t, s, planned(t, source), count, want)
	}
	leave("INSERT INTO t VALUES (:p + 3, 'y')", 1, "1 'x'; 2 NULL; 3 'x'; 5 'y'")
	leave("INSERT INTO t VALUES (0, NULL)", 1, "0 NULL; 1 'x'; 2 NULL; 3 'x'")
	leave("INSERT INTO u VALUES (2, 2, :r)", 1, "3 1 'p'; 5 1 NULL; 1 2 'q'; 2 2 'x'; 3 2 'p'; 3 3 NULL")
	leave("INSERT INTO one VALUES (NOT FALSE)", 1, "FALSE; TRUE")
	leave("UPDATE t SET a = a + 1", 3, "2 'x'; 3 NULL; 4 'x'")
	leave("UPDATE t SET a = 4 - a, b = 'y' WHERE b = 'x'", 2, "1 'y'; 2 NULL; 3 'y'")
	leave("UPDATE u SET c = d, d = c", 5, "2 1 'q'; 1 3 'p'; 2 3 'p'; 3 3 NULL; 1 5 NULL")
	leave("UPDATE t SET b = NULL WHERE a > 9", 0, "1 'x'; 2 NULL; 3 'x'")
	leave("UPDATE w SET n = n + 1 WHERE n = 5", 2, "1 TRUE 6 'a'; 2 FALSE NULL 'b'; 3 NULL 6 NULL; 4 FALSE 4 'a'; 5 TRUE NULL 'a'; 6 TRUE -4 'b'")
	leave("DELETE FROM t", 3, "")
	leave("DELETE FROM t WHERE b = 'x'", 2, "2 NULL")
	leave("DELETE FROM w WHERE n < 5", 2, "1 TRUE 5 'a'; 2 FALSE NULL 'b'; 3 NULL 5 NULL; 5 TRUE NULL 'a'")
	leave("DELETE FROM u WHERE c = 4", 0, "3 1 'p'; 5 1 NULL; 1 2 'q'; 3 2 'p'; 3 3 NULL")
}

// The least number of all errors is told, then ErrNotNull, then ErrUnique; and nothing changes.
func TestP161Errors(t *testing.T) {
	s := chapter()
	fail := func(want api.Errno, sources ...string) {
		t.Helper()
		for _, source := range sources {
			mustFail(t, s, planned(t, source), want)
		}
	}
	const most = "4611686018427387904"
	fail(api.ErrZero, "SELECT a / (a - 2) FROM t", "DELETE FROM t WHERE a / 0 = 1", "INSERT INTO t VALUES (1 / 0, 'x')", "UPDATE t SET a = 1 / (a - 3)", "SELECT MIN(1 / (a - 3)) FROM t", "SELECT MAX(1 / (a - 3)) FROM t", "SELECT SUM(1 / (a - 3)) FROM t", "SELECT b, SUM(1 / (a - 3)) FROM t GROUP BY b", "SELECT a FROM t JOIN u ON 1 / (a - d) = 1", "SELECT 1 % 0 FROM t LIMIT 0", "SELECT 1 / (a - 3) FROM t LIMIT 1", "SELECT SUM(1 / (a - 3)) FROM t LIMIT 0")
	fail(api.ErrOverflow, "SELECT a * "+most+" FROM t", "INSERT INTO t VALUES ("+most+" + 1, 'x')", "UPDATE t SET a = "+most+" * a", "DELETE FROM t WHERE "+most+" * a > 0", "SELECT SUM("+most+") FROM t", "SELECT b, SUM("+most+") FROM t GROUP BY b")
	// Both, in either order; in the same row, and in others.
	fail(api.ErrOverflow, "SELECT 1 / 0, "+most+" + 1 FROM t", "SELECT "+most+" + 1, 1 / 0 FROM t", "SELECT 1 / (a - 1) FROM t WHERE "+most+" - 1 + a > 0", "SELECT a FROM t WHERE 1 / (a - 1) < 1 AND "+most+" - 1 + a > 0", "SELECT "+most+" - 1 + a FROM t WHERE 1 / (a - 1) > -1", "SELECT a FROM t JOIN u ON 1 / (a - 1) < 5 WHERE a * "+most+" = 1", "UPDATE t SET a = a * "+most+", b = NULL WHERE 1 / (a - 1) < 5", "SELECT SUM("+most+"), SUM(1 / 0) FROM t", "SELECT SUM(1 / 0), SUM("+most+") FROM t")
	// Where the Kid has an error its values are not added up.
	fail(api.ErrZero, "SELECT SUM("+most+" / (a - 3)) FROM t", "SELECT SUM("+most+" / (a - 1)) FROM t")
	fail(api.ErrNotNull, "INSERT INTO t VALUES (NULL, 'y')", "INSERT INTO u VALUES (3, NULL, 'x')", "UPDATE t SET a = NULL", "UPDATE t SET a = NULL WHERE a = 3", "UPDATE w SET k = n", "UPDATE u SET c = NULL, d = 1")
	fail(api.ErrUnique, "UPDATE t SET a = 1", "INSERT INTO t VALUES (2, 'y')", "UPDATE t SET a = a + 1 WHERE a < 3", "INSERT INTO u VALUES (3, 1, 'z')", "INSERT INTO w VALUES (7, TRUE, 5, 'a')", "UPDATE w SET n = 4 WHERE n = 5", "UPDATE w SET n = 1, o = 'c' WHERE k < 3", "INSERT INTO one VALUES (FALSE)")
	fail(api.ErrOverflow, "UPDATE t SET a = NULL WHERE a + "+most+" - 1 > 0", "INSERT INTO u VALUES (NULL, "+most+" + 1, 'x')")
	fail(api.ErrZero, "INSERT INTO u VALUES (NULL, 1 / 0, 'x')")
}

// sources are statements that find rows by keys, by indexes and by none.
func sources() []string {
	return []string{
		"SELECT * FROM w", "SELECT k FROM w WHERE n = 5", "SELECT k FROM w WHERE n = 5 AND o = 'a'", "SELECT k FROM w WHERE o = 'a' AND n < 5", "SELECT k FROM w WHERE o = 'a' LIMIT 2", "SELECT k, n FROM w WHERE n <= 5 ORDER BY 2 LIMIT 2", "SELECT n, COUNT(*), MIN(k) FROM w WHERE m = TRUE GROUP BY n", "SELECT k FROM w WHERE n < 5 AND n > 4", "SELECT k FROM w WHERE n > -5", "SELECT k FROM w WHERE o = :r", "SELECT k / (k - 1) FROM w WHERE o = 'b'", "SELECT k / (k - 1) FROM w WHERE o = 'a'", "SELECT k FROM w WHERE n = NULL", "SELECT k FROM w WHERE k = :p", "SELECT k FROM w WHERE k = :p AND m = FALSE",
		"SELECT k, a FROM w JOIN t ON k = a", "SELECT k, a FROM t JOIN w ON k > a AND n = 5", "SELECT k, a, o FROM t JOIN w ON o < b", "SELECT a, d FROM t JOIN u ON d = a WHERE c > 1", "SELECT a, c FROM u JOIN t ON b = e", "SELECT o, COUNT(*) FROM w JOIN one ON m = b GROUP BY o",
		"UPDATE w SET o = 'c' WHERE o = 'a'", "UPDATE w SET o = 'b' WHERE o = 'a'", "UPDATE w SET n = 7 - n WHERE n >= 0", "UPDATE w SET k = k + 10 WHERE m = TRUE", "UPDATE w SET n = 5, o = 'a' WHERE m = TRUE", "UPDATE w SET k = n WHERE o = 'b'", "UPDATE w SET k = 1 / n WHERE o = 'a'",
		"DELETE FROM w WHERE n = 5", "DELETE FROM w WHERE o >= 'b'", "DELETE FROM w WHERE m = FALSE AND n > 0", "INSERT INTO w VALUES (9, NULL, 5, 'a')", "INSERT INTO w VALUES (9, NULL, 5, NULL)", "INSERT INTO w VALUES (1, NULL, 6, 'a')",
	}
}

// without are catalogs with all sets of those indexes of w that are not Unique.
func without() []api.Catalog {
	var l []api.Catalog
	for set := range 8 {
		c := defined()
		c.Tables[2].Indexes = nil
		for i, x := range defined().Tables[2].Indexes {
			if x.Unique || set&(1<<[]int{0, 0, 1, 2}[i]) != 0 {
				c.Tables[2].Indexes = append(c.Tables[2].Indexes, x)
			}
		}
		l = append(l, c)
	}
	return l
}

func TestP162IndexesAndPartitions(t *testing.T) {
	ways := map[int]int{}
	for _, source := range sources() {
		x := typed(t, source)
		want, left, wrong := denote.Run(defined(), given(), chapter(), x, handed()...)
		for _, c := range without() {
			p, e := plan.Make(c, given(), x)
			if e != api.OK {
				t.Fatal(source, e)
			}
			for _, a := range p.Access {
				ways[a.Way]++
			}
			for parts := 1; parts <= 16; parts++ {
				store := stored(t, c, parts, chapter())
				got, e := exec.Run(store.Begin(), given(), p, handed()...)
				if shown(got.Rows) != shown(want.Rows) || got.Count != want.Count || e != wrong || shownState(store.State()) != shownState(left) {
					t.Fatalf("%s by %+v, %d partitions: %s, %d, %v, %s; want %s, %d, %v, %s", source, p.Access, parts, shown(got.Rows), got.Count, e, shownState(store.State()), shown(want.Rows), want.Count, wrong, shownState(left))
				}
			}
		}
	}
	if ways[api.WayAll] < 30 || ways[api.WayKey] < 20 || ways[api.WayIndex] < 30 {
		t.Error(ways)
	}
}

// A work sees what it has changed itself, and what others have; all is taken back.
func TestP163SeenAndUndone(t *testing.T) {
	x := stored(t, defined(), 3, chapter())
	w, other := x.Begin(), x.Begin()
	run := func(w *table.Work, source, want string, count int) {
		t.Helper()
		r, e := exec.Run(w, given(), planned(t, source), handed()...)
		if shown(r.Rows) != want || r.Count != count || e != api.OK {
			t.Errorf("%s: %s, %d, %v; want %s, %d", source, shown(r.Rows), r.Count, e, want, count)
		}
	}
	run(w, "INSERT INTO t VALUES (4, 'y')", "", 1)
	run(w, "SELECT a FROM t WHERE b = 'y'", "4", 0)
	run(other, "SELECT a FROM t WHERE b >= 'x'", "1; 3; 4", 0)
	run(w, "UPDATE t SET b = 'z', a = a + 10 WHERE b = 'x'", "", 2)
	run(w, "SELECT a, b FROM t", "2 NULL; 4 'y'; 11 'z'; 13 'z'", 0)
	run(w, "SELECT a FROM t WHERE b = 'x'", "", 0)
	if _, e := exec.Run(w, given(), planned(t, "INSERT INTO t VALUES (11, 'y')"), handed()...); e != api.ErrUnique {
		t.Error(e)
	}
	run(w, "DELETE FROM t WHERE a < 11", "", 2)
	run(w, "INSERT INTO t VALUES (1, 'y')", "", 1)
	run(w, "DELETE FROM u WHERE c = 1", "", 2)
	run(w, "UPDATE w SET m = NULL", "", 6)
	run(w, "SELECT a, b FROM t WHERE b < 'z'", "1 'y'", 0)
	if got := shown(x.State().Tables[0]); got != "1 'y'; 11 'z'; 13 'z'" {
		t.Error(got)
	}
	w.Undo()
	if got := shownState(x.State()); got != shownState(chapter()) {
		t.Error(got)
	}
	run(other, "SELECT a FROM t WHERE b = 'x'", "1; 3", 0)
	run(other, "DELETE FROM t WHERE b = 'x'", "", 2)
	other.Done()
	if got := shown(x.State().Tables[0]); got != "2 NULL" {
		t.Error(got)
	}
}

// A select that is run again and again changes nothing that could be told, nor does it end the work.
func TestP163SelectsChangeNothing(t *testing.T) {
	x := stored(t, defined(), 3, chapter())
	w := x.Begin()
	re, im := x.Digest(2)
	for range 3 {
		for _, source := range sources() {
			if !strings.HasPrefix(source, "SELECT") {
				continue
			}
			want, _, wrong := denote.Run(defined(), given(), chapter(), typed(t, source), handed()...)
			if r, e := exec.Run(w, given(), planned(t, source), handed()...); shown(r.Rows) != shown(want.Rows) || e != wrong {
				t.Errorf("%s: %s, %v", source, shown(r.Rows), e)
			}
		}
	}
	a, b := x.Digest(2)
	if got := shownState(x.State()); got != shownState(chapter()) || a != re || b != im || w.Over() {
		t.Error(got, a, b, w.Over())
	}
	w.Undo()
	if got := shownState(x.State()); got != shownState(chapter()) {
		t.Error(got)
	}
}
