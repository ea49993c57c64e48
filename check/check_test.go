package check_test

import (
	"fmt"
	"slices"
	"strconv"
	"strings"
	"testing"

	"unison/api"
	"unison/check"
	"unison/pretty"
	"unison/syntax"
)

// defined are the chapter's tables t and u, and besides: w, the first nine of whose columns are numbers, and the others truths; v, of whose columns one is named as t is; and x, a single truth.
func defined() api.Catalog {
	columns := func(l ...string) []api.Column {
		var out []api.Column
		for i, s := range l {
			name, kind, _ := strings.Cut(s, " ")
			out = append(out, api.Column{Name: name, Type: strings.Index(" IBT", kind), NotNull: i == 0})
		}
		return out
	}
	var wide []string
	for i := range 16 {
		wide = append(wide, "c"+strconv.Itoa(i)+" "+map[bool]string{true: "I", false: "B"}[i < 9])
	}
	return api.Catalog{Tables: []api.Table{
		{Name: "t", Columns: columns("a I", "b T"), Key: []int{0}},
		{Name: "u", Columns: columns("a I", "c B"), Key: []int{0}},
		{Name: "w", Columns: columns(wide...), Key: []int{0}},
		{Name: "v", Columns: columns("t I", "b T", "d T"), Key: []int{0}},
		{Name: "x", Columns: columns("y B"), Key: []int{0}},
	}}
}

func given() []api.Param {
	return []api.Param{{Name: "p", Type: api.Int}, {Name: "q", Type: api.Bool}, {Name: "r", Type: api.Text}, {Name: "a", Type: api.Text}}
}

// read is the statement of a source, in which a ^ may mark a place; that of the mark, or 0.
func read(t *testing.T, source string) (api.Stmt, int) {
	t.Helper()
	at := max(0, strings.Index(source, "^"))
	s, f := syntax.Parse(strings.Replace(source, "^", "", 1))
	if f != (api.Fault{}) {
		t.Fatalf("Parse(%q): %v", source, f)
	}
	return s, at
}

// told is all of a typed statement, as a text: each field that is not zero.
func told(t api.Typed) string {
	out := "kind " + strconv.Itoa(t.Kind)
	put := func(name string, there bool, x any) {
		if there {
			out += fmt.Sprint("; ", name, " ", x)
		}
	}
	put("tables", len(t.Tables) > 0, t.Tables)
	put("on", len(t.On) > 0, terms(t.On))
	put("where", len(t.Where) > 0, terms(t.Where))
	put("items", len(t.Items) > 0, terms(t.Items))
	put("columns", len(t.Columns) > 0, t.Columns)
	put("grouped", t.Grouped, t.Grouped)
	put("groups", len(t.Groups) > 0, t.Groups)
	put("sorts", len(t.Sorts) > 0, t.Sorts)
	put("limit", len(t.Limit) > 0, t.Limit)
	put("types", len(t.Types) > 0, t.Types)
	return out
}

func terms(l []api.Term) string {
	var out []string
	for _, t := range l {
		names := []string{"?", "value", "param", "column", "neg", "arith", "compare", "null", "not", "and", "or", "count", "sum", "min", "max"}
		s := strconv.Itoa(t.Op)
		if 0 <= t.Op && t.Op < len(names) {
			s = names[t.Op]
		}
		if t.Num != 0 || t.Op == api.ExprColumn || t.Op == api.ExprParam {
			s += " " + strconv.Itoa(t.Num)
		}
		if t.Value != (api.Value{}) {
			s += fmt.Sprintf(" %d.%d.%q", t.Value.Kind, t.Value.Int, t.Value.Text)
		}
		if len(t.Kids) > 0 {
			s += "(" + terms(t.Kids) + ")"
		}
		out = append(out, s+":"+strconv.Itoa(t.Type))
	}
	return strings.Join(out, ", ")
}

// mustType holds a source's typed statement against the one that is wanted; that one is right, and what its one form comes to.
func mustType(t *testing.T, source, want string) {
	t.Helper()
	s, _ := read(t, source)
	mustTypeStmt(t, s, want)
	if again, f := check.Check(defined(), given(), reread(t, s)); told(again) != want || f != (api.Fault{}) {
		t.Errorf("the one form of %q is %s, %v; want %s", source, told(again), f, want)
	}
}

func reread(t *testing.T, s api.Stmt) api.Stmt {
	t.Helper()
	form, e := pretty.Print(s)
	again, f := syntax.Parse(form)
	if e != api.OK || f != (api.Fault{}) {
		t.Fatal(form, e, f)
	}
	return again
}

func mustTypeStmt(t *testing.T, s api.Stmt, want string) {
	t.Helper()
	got, f := check.Check(defined(), given(), s)
	if told(got) != want || f != (api.Fault{}) {
		t.Errorf("Check(%+v) = %s, %v; want %s", s, told(got), f, want)
	}
	if !check.Right(defined(), given(), got) {
		t.Errorf("%s is not right", told(got))
	}
}

// mustFail holds what is wrong with a source, and where (at its mark), against what is wanted.
func mustFail(t *testing.T, want api.Errno, sources ...string) {
	t.Helper()
	for _, source := range sources {
		s, at := read(t, source)
		mustFailStmt(t, s, api.Fault{Code: want, At: at})
		if _, f := check.Check(defined(), given(), reread(t, s)); f.Code != want {
			t.Errorf("the one form of %q: %v; want %v", source, f, want)
		}
	}
}

func mustFailStmt(t *testing.T, s api.Stmt, want api.Fault) {
	t.Helper()
	if got, f := check.Check(defined(), given(), s); f != want || told(got) != "kind 0" {
		t.Errorf("Check(%+v) = %s, %v; want %v", s, told(got), f, want)
	}
}

func TestExamples(t *testing.T) {
	mustType(t, "SELECT t.a, b FROM t JOIN u ON t.a = u.a WHERE c", "kind 4; tables [0 1]; on compare 1(column 0:1, column 2:1):2; where column 3:2; items column 0:1, column 1:3; types [1 3]")
	mustFail(t, api.ErrTwice, "SELECT ^a FROM t JOIN u ON TRUE")
	mustType(t, "INSERT INTO t VALUES (:p, NULL)", "kind 1; tables [0]; items param 0:1, value:0")
	mustFail(t, api.ErrWidth, "INSERT INTO t VALUES (1)")
	mustFail(t, api.ErrType, "INSERT INTO t VALUES (1, ^2)")
	mustFail(t, api.ErrNone, "INSERT INTO t VALUES (^a, 'x')")
	mustFail(t, api.ErrTwice, "UPDATE t SET b = 'x', ^b = 'y'")
	mustFail(t, api.ErrNone, "UPDATE t SET ^z = 1")
	mustFail(t, api.ErrType, "UPDATE t SET b = ^a")
	mustFail(t, api.ErrMixed, "SELECT ^a, COUNT(*) FROM t")
	mustType(t, "SELECT b, COUNT(*) FROM t GROUP BY b", "kind 4; tables [0]; items column 1:3, count:1; grouped true; groups [1]; types [3 1]")
	mustFail(t, api.ErrType, "SELECT a + ^b FROM t", "SELECT a ^= b FROM t", "SELECT a FROM t WHERE ^a")
	mustFail(t, api.ErrNone, "SELECT a FROM t ORDER BY ^2", "^SELECT a FROM v2", "SELECT ^v.a FROM t")
}

func TestP131WrongCatalogs(t *testing.T) {
	s, _ := read(t, "  DELETE FROM t")
	fault := api.Fault{Code: api.ErrCatalog}
	for i, change := range []func(c *api.Catalog){
		func(c *api.Catalog) { c.Tables[4].Columns = nil },
		func(c *api.Catalog) { c.Tables[1].Name = "t" },
		func(c *api.Catalog) { c.Tables[1].Name = "T" },
		func(c *api.Catalog) { c.Tables[0].Columns[1].Name = "a" },
		func(c *api.Catalog) { c.Tables[0].Columns[1].Type = 4 },
		func(c *api.Catalog) { c.Tables[0].Columns[0].NotNull = false },
		func(c *api.Catalog) { c.Tables[0].Part = 1 },
		func(c *api.Catalog) { c.Tables = append(c.Tables, c.Tables...) },
		func(c *api.Catalog) { c.Procs = []api.Proc{{Name: "p"}} },
	} {
		c := defined()
		change(&c)
		for _, s := range []api.Stmt{s, {}, {Kind: api.StmtDelete, Table: "none", At: 3}} {
			if got, f := check.Check(c, given(), s); f != fault || told(got) != "kind 0" {
				t.Errorf("%d: Check = %s, %v", i, told(got), f)
			}
		}
		if check.Right(c, given(), api.Typed{Kind: api.StmtDelete, Tables: []int{0}}) {
			t.Errorf("%d: right", i)
		}
	}
	if _, f := check.Check(api.Catalog{}, nil, s); f != (api.Fault{Code: api.ErrNone, At: 2}) {
		t.Error(f)
	}
}

func TestP131WrongParams(t *testing.T) {
	s, _ := read(t, "  DELETE FROM t")
	many := func(n int) []api.Param {
		var l []api.Param
		for i := range n {
			l = append(l, api.Param{Name: "p" + strconv.Itoa(i), Type: api.Bool})
		}
		return l
	}
	for _, l := range [][]api.Param{
		many(9), many(100),
		{{}}, {{Name: "p"}}, {{Type: api.Int}},
		{{Name: "p", Type: 4}}, {{Name: "p", Type: -1}},
		{{Name: "P", Type: api.Int}}, {{Name: "1", Type: api.Int}}, {{Name: "_", Type: api.Int}}, {{Name: "p q", Type: api.Int}}, {{Name: "abcdefghijklmnopq", Type: api.Int}},
		{{Name: "p", Type: api.Int}, {Name: "p", Type: api.Int}},
		{{Name: "p", Type: api.Int}, {Name: "q", Type: api.Int}, {Name: "p", Type: api.Text}},
		append(many(7), api.Param{}),
	} {
		for _, s := range []api.Stmt{s, {}, {Kind: api.StmtDelete, Table: "none", At: 3}} {
			if got, f := check.Check(defined(), l, s); f != (api.Fault{Code: api.ErrCatalog}) || told(got) != "kind 0" {
				t.Errorf("Check with %v = %s, %v", l, told(got), f)
			}
		}
		if check.Right(defined(), l, api.Typed{Kind: api.StmtDelete, Tables: []int{0}}) {
			t.Errorf("right with %v", l)
		}
	}
	for _, l := range [][]api.Param{nil, many(8), {{Name: "abcdefghijklmnop", Type: api.Text}}, {{Name: "a_1", Type: api.Int}}, {{Name: "t", Type: api.Bool}}} {
		if got, f := check.Check(defined(), l, s); f != (api.Fault{}) || told(got) != "kind 3; tables [0]" || !check.Right(defined(), l, got) {
			t.Errorf("Check with %v = %s, %v", l, told(got), f)
		}
	}
}

func TestP131WrongStatements(t *testing.T) {
	a := api.Expr{Kind: api.ExprColumn, Name: "a"}
	loop := []api.Expr{{Kind: api.ExprNeg, At: 3}}
	loop[0].Kids = loop
	for _, s := range []api.Stmt{
		{},
		{Kind: 5, Table: "t", At: 1},
		{Kind: api.StmtDelete, Table: "T", At: 1},
		{Kind: api.StmtDelete, Table: "none", Limit: []int{1}, At: 1},
		{Kind: api.StmtDelete, Table: "t", Where: []api.Expr{a, a}},
		{Kind: api.StmtDelete, Table: "t", Where: []api.Expr{{Kind: api.ExprCount}}},
		{Kind: api.StmtInsert, Table: "t", At: 1},
		{Kind: api.StmtInsert, Table: "t", Items: []api.Expr{{Kind: api.ExprValue, Value: api.Value{Kind: api.Int, Int: -1}}}},
		{Kind: api.StmtUpdate, Table: "t", At: 1},
		{Kind: api.StmtSelect, Table: "t", At: 1},
		{Kind: api.StmtSelect, Table: "t", Items: []api.Expr{a}, Star: true},
		{Kind: api.StmtSelect, Table: "t", Items: []api.Expr{a}, Join: "u"},
		{Kind: api.StmtSelect, Table: "t", Items: slices.Repeat([]api.Expr{a}, 9)},
		{Kind: api.StmtSelect, Table: "t", Items: []api.Expr{{Kind: api.ExprArith, Op: 6, Kids: []api.Expr{a, a}}}},
		{Kind: api.StmtSelect, Table: "t", Items: loop},
	} {
		mustFailStmt(t, s, api.Fault{Code: api.ErrTree})
	}
}

func TestP131Tables(t *testing.T) {
	mustFail(t, api.ErrNone,
		"DELETE FROM a", "  ^DELETE FROM tt", " ^INSERT INTO v1 VALUES (z)", " ^UPDATE z SET z = z WHERE z", "-- x\n^SELECT z FROM z",
		" ^SELECT z FROM z JOIN t ON z", " ^SELECT z FROM z JOIN y ON z", " ^SELECT z FROM z JOIN z ON z",
		"SELECT z FROM t JOIN ^z ON z", "SELECT z FROM u JOIN ^p ON z WHERE z GROUP BY z ORDER BY 0")
	mustFail(t, api.ErrTwice, "SELECT z FROM t JOIN ^t ON z", "SELECT z FROM u JOIN ^u ON z WHERE z")
	mustType(t, "DELETE FROM t", "kind 3; tables [0]")
	mustType(t, "DELETE FROM x", "kind 3; tables [4]")
	mustType(t, "SELECT y FROM t JOIN x ON y", "kind 4; tables [0 4]; on column 2:2; items column 2:2; types [2]")
	mustType(t, "SELECT y FROM x JOIN t ON y", "kind 4; tables [4 0]; on column 0:2; items column 0:2; types [2]")
}

func TestP131Columns(t *testing.T) {
	mustType(t, "SELECT a, t.a, b, t.b FROM t", "kind 4; tables [0]; items column 0:1, column 0:1, column 1:3, column 1:3; types [1 1 3 3]")
	mustType(t, "SELECT u.a, t.a, b, c FROM t JOIN u ON u.c", "kind 4; tables [0 1]; on column 3:2; items column 2:1, column 0:1, column 1:3, column 3:2; types [1 1 3 2]")
	mustType(t, "SELECT u.a, t.a, b, c FROM u JOIN t ON u.c", "kind 4; tables [1 0]; on column 1:2; items column 0:1, column 2:1, column 3:3, column 1:2; types [1 1 3 2]")
	mustType(t, "SELECT t, t.b, v.t, v.b, d FROM t JOIN v ON TRUE", "kind 4; tables [0 3]; on value 2.1.\"\":2; items column 2:1, column 1:3, column 2:1, column 3:3, column 4:3; types [1 3 1 3 3]")
	mustType(t, "SELECT w.c15, y FROM w JOIN x ON y", "kind 4; tables [2 4]; on column 16:2; items column 15:2, column 16:2; types [2 2]")
	mustFail(t, api.ErrNone,
		"SELECT ^c FROM t", "SELECT ^p FROM t", "SELECT ^t FROM t", "SELECT ^u.a FROM t", "SELECT ^u.c FROM t", "SELECT ^t.c FROM t", "SELECT ^z.a FROM t", "SELECT ^a.t FROM v", "SELECT ^t.t FROM v",
		"SELECT ^t.c FROM t JOIN u ON TRUE", "SELECT ^u.b FROM t JOIN u ON TRUE", "SELECT ^w.a FROM t JOIN u ON TRUE", "SELECT ^z.a FROM t JOIN u ON TRUE", "SELECT ^d FROM t JOIN u ON TRUE",
		"DELETE FROM t WHERE ^c", "UPDATE t SET a = ^c", "DELETE FROM t WHERE ^u.a = 1", "UPDATE t SET a = ^u.a")
	mustFail(t, api.ErrTwice, "SELECT ^a FROM t JOIN u ON TRUE", "SELECT t.a FROM t JOIN u ON ^a = 1", "SELECT t.a FROM t JOIN u ON TRUE WHERE ^a = 1", "SELECT ^b FROM t JOIN v ON TRUE", "SELECT t.a FROM t JOIN u ON TRUE GROUP BY t.a, ^a", "SELECT u.a FROM u JOIN t ON u.a = ^a")
}

func TestP131Params(t *testing.T) {
	mustType(t, "SELECT :p, :q, :r, :a, a FROM t", "kind 4; tables [0]; items param 0:1, param 1:2, param 2:3, param 3:3, column 0:1; types [1 2 3 3 1]")
	mustFail(t, api.ErrNone, "SELECT ^:b FROM t", "SELECT ^:t FROM t", "DELETE FROM t WHERE :p = ^:pp", "INSERT INTO t VALUES (^:s, 1)", "UPDATE t SET a = - ^:x", "SELECT SUM(^:z) FROM t")
}

func TestP131Values(t *testing.T) {
	mustType(t, "SELECT 0, 4611686018427387904, 'x', '', TRUE, FALSE, NULL FROM t",
		"kind 4; tables [0]; items value 1.0.\"\":1, value 1.4611686018427387904.\"\":1, value 3.0.\"x\":3, value 3.0.\"\":3, value 2.1.\"\":2, value 2.0.\"\":2, value:0; types [1 1 3 3 2 2 0]")
}

// Of each kind of expressions, over Kids of each type.
func TestP131Types(t *testing.T) {
	typed := func(source, want string) {
		t.Helper()
		mustType(t, "SELECT "+source+" FROM t JOIN x ON y", "kind 4; tables [0 4]; on column 2:2; items "+want+"; types ["+want[len(want)-1:]+"]")
	}
	wrong := func(source string) { t.Helper(); mustFail(t, api.ErrType, "SELECT "+source+" FROM t JOIN x ON y") }
	kids := []struct {
		source, term string
		kind         int
	}{{"a", "column 0:1", 1}, {"b", "column 1:3", 3}, {"y", "column 2:2", 2}, {"NULL", "value:0", 0}, {"(NULL + NULL)", "arith 1(value:0, value:0):1", 1}, {":r", "param 2:3", 3}, {"(NULL IS NULL)", "null(value:0):2", 2}}
	mark := func(s string) string {
		if s, ok := strings.CutPrefix(s, "(NULL "); ok {
			return "(NULL ^" + s
		}
		return "^" + s
	}
	for _, k := range kids {
		one := func(word, behind, term string, kind int, fits bool) {
			if fits {
				typed(word+k.source+behind, term+"("+k.term+"):"+strconv.Itoa(kind))
			} else {
				wrong(word + mark(k.source) + behind)
			}
		}
		one("-", "", "neg", 1, k.kind == 1 || k.kind == 0)
		one("NOT ", "", "not", 2, k.kind == 2 || k.kind == 0)
		one("", " IS NULL", "null", 2, true)
		one("", " IS NOT NULL", "null 1", 2, true)
		mixed := func(word, name string, kind int, fits bool) {
			if !fits {
				wrong(word + "(" + mark(k.source) + ")")
				return
			}
			mustType(t, "SELECT "+word+"("+k.source+") FROM t JOIN x ON y", "kind 4; tables [0 4]; on column 2:2; items "+name+"("+k.term+"):"+strconv.Itoa(kind)+"; grouped true; types ["+strconv.Itoa(kind)+"]")
		}
		mixed("SUM", "sum", 1, k.kind == 1 || k.kind == 0)
		mixed("MIN", "min", k.kind, true)
		mixed("MAX", "max", k.kind, true)
		for _, o := range kids {
			pair := "(" + k.term + ", " + o.term + ")"
			both := func(sign, name string, only, kind int) {
				switch {
				case k.kind != only && k.kind != 0:
					wrong(mark(k.source) + sign + o.source)
				case o.kind != only && o.kind != 0:
					wrong(k.source + sign + mark(o.source))
				default:
					typed(k.source+sign+o.source, name+pair+":"+strconv.Itoa(kind))
				}
			}
			for op, sign := range []string{" + ", " - ", " * ", " / ", " % "} {
				both(sign, "arith "+strconv.Itoa(op+1), 1, 1)
			}
			both(" AND ", "and", 2, 2)
			both(" OR ", "or", 2, 2)
			for op, sign := range []string{"=", "<>", "<", "<=", ">", ">="} {
				if k.kind == o.kind || k.kind == 0 || o.kind == 0 {
					typed(k.source+" "+sign+" "+o.source, "compare "+strconv.Itoa(op+1)+pair+":2")
				} else {
					wrong(k.source + " ^" + sign + " " + o.source)
				}
			}
		}
	}
	typed("y AND NULL AND y AND TRUE", "and(column 2:2, value:0, column 2:2, value 2.1.\"\":2):2")
	wrong("y OR NULL OR ^a OR b")
	mustType(t, "SELECT COUNT(*) FROM t", "kind 4; tables [0]; items count:1; grouped true; types [1]")
}

// The Kids come first, each wholly, from the left; then the expression itself.
func TestP131OrderInExpressions(t *testing.T) {
	mustFail(t, api.ErrNone, "SELECT b + ^z FROM t", "SELECT a = 1 OR ^z FROM t", "SELECT (a = 1) + ^z FROM t", "SELECT a < b + ^z FROM t", "SELECT -(b = ^z) FROM t", "SELECT ^z + (b = 1) FROM t", "SELECT SUM(b AND ^z) FROM t", "SELECT b AND a AND ^z FROM t")
	mustFail(t, api.ErrType, "SELECT (b ^= 1) + z FROM t", "SELECT -^b + z FROM t", "SELECT a + ^b * 2 FROM t", "SELECT NOT (a ^= b) FROM t", "SELECT (a + ^b) = NULL FROM t", "SELECT ^b + (a = 1) FROM t", "SELECT MIN(-^b) FROM t")
	mustFail(t, api.ErrTwice, "SELECT b + ^a + z FROM t JOIN u ON TRUE")
}

func TestP131Tests(t *testing.T) {
	for _, s := range []struct{ source, term string }{{"TRUE", "value 2.1.\"\":2"}, {"NULL", "value:0"}, {":q", "param 1:2"}, {"a = 1", "compare 1(column 0:1, value 1.1.\"\":1):2"}, {"NULL AND NULL", "and(value:0, value:0):2"}} {
		mustType(t, "DELETE FROM t WHERE "+s.source, "kind 3; tables [0]; where "+s.term)
		mustType(t, "UPDATE t SET a = NULL WHERE "+s.source, "kind 2; tables [0]; where "+s.term+"; items value:0; columns [0]")
		mustType(t, "SELECT b FROM t WHERE "+s.source, "kind 4; tables [0]; where "+s.term+"; items column 1:3; types [3]")
		source := strings.Replace(s.source, "a", "t.a", 1)
		mustType(t, "SELECT b FROM t JOIN u ON "+source+" WHERE "+source, "kind 4; tables [0 1]; on "+s.term+"; where "+s.term+"; items column 1:3; types [3]")
	}
	for _, s := range []string{"^1", "^'x'", "^t.a", "^:p", "^-NULL", "NULL ^+ NULL"} {
		mustFail(t, api.ErrType, "DELETE FROM t WHERE "+s, "UPDATE t SET z = z WHERE "+s, "SELECT z FROM t WHERE "+s+" GROUP BY z ORDER BY 0", "SELECT z FROM t JOIN u ON "+s+" WHERE z", "SELECT z FROM t JOIN u ON TRUE WHERE "+s)
	}
}

func TestP131Inserts(t *testing.T) {
	mustType(t, "INSERT INTO t VALUES (1 + :p, 'x')", "kind 1; tables [0]; items arith 1(value 1.1.\"\":1, param 0:1):1, value 3.0.\"x\":3")
	mustType(t, "INSERT INTO t VALUES (NULL, NULL)", "kind 1; tables [0]; items value:0, value:0")
	mustType(t, "INSERT INTO x VALUES (:p = 1)", "kind 1; tables [4]; items compare 1(param 0:1, value 1.1.\"\":1):2")
	mustType(t, "INSERT INTO w VALUES (1,2,3,4,5,6,7,8,9,NULL,TRUE,TRUE,TRUE,TRUE,TRUE,FALSE)", "kind 1; tables [2]; items "+
		"value 1.1.\"\":1, value 1.2.\"\":1, value 1.3.\"\":1, value 1.4.\"\":1, value 1.5.\"\":1, value 1.6.\"\":1, value 1.7.\"\":1, value 1.8.\"\":1, value 1.9.\"\":1, value:0, "+strings.Repeat("value 2.1.\"\":2, ", 5)+"value 2.0.\"\":2")
	mustFail(t, api.ErrWidth, "INSERT INTO t VALUES (1)", " ^INSERT INTO t VALUES (z)", "INSERT INTO t VALUES (1, 'x', z)", "INSERT INTO x VALUES (TRUE, TRUE)", " ^INSERT INTO w VALUES (1,2,3,4,5,6,7,8,9,NULL,TRUE,TRUE,TRUE,TRUE,TRUE)")
	mustFail(t, api.ErrType, "INSERT INTO t VALUES (^'x', z)", "INSERT INTO t VALUES (1, ^:p)", "INSERT INTO t VALUES (1, 2 ^+ NULL)", "INSERT INTO t VALUES (NULL ^= NULL, 1)", "INSERT INTO x VALUES (^1)", "INSERT INTO t VALUES (1 + ^'x', z)")
	mustFail(t, api.ErrNone, "INSERT INTO t VALUES (^a, z)", "INSERT INTO t VALUES (1, ^t.b)", "INSERT INTO t VALUES (1, ^b)", "INSERT INTO t VALUES (-^t.a, 'x')", "INSERT INTO t VALUES (^z, 1)")
}

func TestP131Updates(t *testing.T) {
	mustType(t, "UPDATE t SET b = 'x', a = a + 1", "kind 2; tables [0]; items value 3.0.\"x\":3, arith 1(column 0:1, value 1.1.\"\":1):1; columns [1 0]")
	mustType(t, "UPDATE t SET b = NULL WHERE t.b = b", "kind 2; tables [0]; where compare 1(column 1:3, column 1:3):2; items value:0; columns [1]")
	mustType(t, "UPDATE w SET c15 = c0 = c1, c0 = c8", "kind 2; tables [2]; items compare 1(column 0:1, column 1:1):2, column 8:1; columns [15 0]")
	mustFail(t, api.ErrNone, "UPDATE t SET ^c = z", "UPDATE t SET ^t = z", "UPDATE t SET ^p = 1", "UPDATE t SET a = 1, ^z = 1", "UPDATE t SET a = ^z", "UPDATE t SET a = 1, b = ^z, b = 'x'")
	mustFail(t, api.ErrTwice, "UPDATE t SET a = 1, ^a = z", "UPDATE t SET a = 1, b = 'x', ^a = 1", "UPDATE t SET a = 1, b = 'x', ^b = 'x', z = 1")
	mustFail(t, api.ErrType, "UPDATE t SET a = ^b", "UPDATE t SET a = ^TRUE", "UPDATE t SET b = a ^= NULL", "UPDATE t SET b = ^1, b = 'x'", "UPDATE t SET a = 1, b = -^b, z = 1")
}

func TestP131Groups(t *testing.T) {
	mustType(t, "SELECT a FROM t GROUP BY a", "kind 4; tables [0]; items column 0:1; grouped true; groups [0]; types [1]")
	mustType(t, "SELECT COUNT(*) FROM t GROUP BY b, t.a", "kind 4; tables [0]; items count:1; grouped true; groups [1 0]; types [1]")
	mustType(t, "SELECT c, t.a, SUM(u.a) FROM t JOIN u ON TRUE GROUP BY t.a, u.a, c", "kind 4; tables [0 1]; on value 2.1.\"\":2; items column 3:2, column 0:1, sum(column 2:1):1; grouped true; groups [0 2 3]; types [2 1 1]")
	mustType(t, "SELECT MIN(a), MAX(b) FROM t", "kind 4; tables [0]; items min(column 0:1):1, max(column 1:3):3; grouped true; types [1 3]")
	mustFail(t, api.ErrNone, "SELECT z FROM t GROUP BY ^c", "SELECT z FROM t GROUP BY a, ^z, a", "SELECT z FROM t GROUP BY ^u.a", "SELECT z FROM t GROUP BY ^p", "SELECT * FROM t GROUP BY ^z")
	mustFail(t, api.ErrTwice, "SELECT z FROM t GROUP BY a, ^a, z", "SELECT z FROM t GROUP BY a, b, ^t.a", "SELECT z FROM t GROUP BY t.b, ^b", "SELECT z FROM t JOIN u ON TRUE GROUP BY t.a, u.a, ^t.a", "SELECT z FROM t JOIN u ON TRUE GROUP BY ^a", "SELECT * FROM t GROUP BY a, ^a")
}

func TestP131MixedItems(t *testing.T) {
	mustFail(t, api.ErrMixed,
		"SELECT ^b FROM t GROUP BY a", "SELECT a, ^b FROM t GROUP BY a", "SELECT ^1 FROM t GROUP BY a", "SELECT ^NULL FROM t GROUP BY a", "SELECT ^:p FROM t GROUP BY a", "SELECT a ^+ 1 FROM t GROUP BY a", "SELECT ^-a FROM t GROUP BY a", "SELECT a ^IS NULL FROM t GROUP BY a", "SELECT ^NOT TRUE, z FROM t GROUP BY a",
		"SELECT ^a, SUM(a) FROM t", "SELECT SUM(a), ^a FROM t", "SELECT ^1, MIN(a) FROM t", "SELECT ^a, MAX(a), z FROM t", "SELECT ^a, MAX(z) FROM t", "SELECT COUNT(*), MIN(a), ^TRUE, MAX(a) FROM t",
		"SELECT t.a, ^u.a FROM t JOIN u ON TRUE GROUP BY t.a", "SELECT ^a FROM t GROUP BY b ORDER BY 0")
	mustFail(t, api.ErrNone, "SELECT ^z FROM t GROUP BY a", "SELECT a, ^z, b FROM t GROUP BY a", "SELECT ^z, COUNT(*) FROM t", "SELECT COUNT(*), ^z + 1 FROM t")
	mustFail(t, api.ErrType, "SELECT SUM(^b), a FROM t", "SELECT COUNT(*), -^b, a FROM t")
	mustType(t, "SELECT t.a, a, a FROM t GROUP BY a", "kind 4; tables [0]; items column 0:1, column 0:1, column 0:1; grouped true; groups [0]; types [1 1 1]")
	mustType(t, "SELECT a, b, 1 FROM t", "kind 4; tables [0]; items column 0:1, column 1:3, value 1.1.\"\":1; types [1 3 1]")
}

func TestP131Stars(t *testing.T) {
	mustType(t, "SELECT * FROM t", "kind 4; tables [0]; items column 0:1, column 1:3; types [1 3]")
	mustType(t, "SELECT * FROM t JOIN u ON c ORDER BY 4, 1 DESC LIMIT 2", "kind 4; tables [0 1]; on column 3:2; items column 0:1, column 1:3, column 2:1, column 3:2; sorts [{4 false 0} {1 true 0}]; limit [2]; types [1 3 1 2]")
	wide := ""
	for i := range 16 {
		wide += fmt.Sprintf("column %d:%d, ", i, map[bool]int{true: 1, false: 2}[i < 9])
	}
	mustType(t, "SELECT * FROM w ORDER BY 16", "kind 4; tables [2]; items "+strings.TrimSuffix(wide, ", ")+"; sorts [{16 false 0}]; types [1 1 1 1 1 1 1 1 1 2 2 2 2 2 2 2]")
	mustFail(t, api.ErrWidth, " ^SELECT * FROM w JOIN x ON y", " ^SELECT * FROM x JOIN w ON y ORDER BY 0", " ^SELECT * FROM w JOIN t ON TRUE")
	mustFail(t, api.ErrMixed, "SELECT * FROM t GROUP BY ^a", "SELECT * FROM t GROUP BY ^b, a ORDER BY 0", "SELECT * FROM w JOIN x ON y GROUP BY ^y", "SELECT * FROM x GROUP BY ^y")
	mustFail(t, api.ErrNone, "SELECT * FROM t ORDER BY ^3", "SELECT * FROM w ORDER BY 16, ^17", "SELECT * FROM t JOIN u ON c ORDER BY ^5")
}

func TestP131Sorts(t *testing.T) {
	mustType(t, "SELECT b, a FROM t ORDER BY 2 DESC, 1, 2 LIMIT 0", "kind 4; tables [0]; items column 1:3, column 0:1; sorts [{2 true 0} {1 false 0} {2 false 0}]; limit [0]; types [3 1]")
	mustType(t, "SELECT b FROM t LIMIT 4611686018427387904", "kind 4; tables [0]; items column 1:3; limit [4611686018427387904]; types [3]")
	mustFail(t, api.ErrNone, "SELECT a FROM t ORDER BY ^0", "SELECT a FROM t ORDER BY 1, ^2, 0", "SELECT a, b FROM t ORDER BY ^3 DESC", "SELECT a FROM t ORDER BY ^4611686018427387904 LIMIT 1", "SELECT COUNT(*) FROM t ORDER BY 1, ^0")
}

// Each source has the fault that is named, and all faults that come behind it.
func TestP131OrderOfFaults(t *testing.T) {
	mustFail(t, api.ErrNone, " ^SELECT z FROM z JOIN z ON z WHERE z GROUP BY z ORDER BY 0", "SELECT z FROM t JOIN ^z ON z WHERE z GROUP BY z ORDER BY 0")
	mustFail(t, api.ErrTwice, "SELECT z FROM t JOIN ^t ON z WHERE z GROUP BY z ORDER BY 0")
	mustFail(t, api.ErrNone, "SELECT z FROM t JOIN u ON ^z WHERE z GROUP BY z ORDER BY 0")
	mustFail(t, api.ErrType, "SELECT z FROM t JOIN u ON ^1 WHERE z GROUP BY z ORDER BY 0")
	mustFail(t, api.ErrNone, "SELECT z FROM t JOIN u ON c WHERE ^z GROUP BY z ORDER BY 0")
	mustFail(t, api.ErrType, "SELECT z FROM t JOIN u ON c WHERE ^1 GROUP BY z ORDER BY 0")
	mustFail(t, api.ErrNone, "SELECT z FROM t JOIN u ON c WHERE c GROUP BY ^z, b, b ORDER BY 0")
	mustFail(t, api.ErrTwice, "SELECT z FROM t JOIN u ON c WHERE c GROUP BY b, ^b ORDER BY 0")
	mustFail(t, api.ErrNone, "SELECT ^z, -b FROM t JOIN u ON c WHERE c GROUP BY b ORDER BY 0")
	mustFail(t, api.ErrMixed, "SELECT ^c, z FROM t JOIN u ON c WHERE c GROUP BY b ORDER BY 0")
	mustFail(t, api.ErrNone, "SELECT b FROM t JOIN u ON c WHERE c GROUP BY b ORDER BY ^0")
	mustFail(t, api.ErrNone, "UPDATE t SET z = z WHERE ^z", " ^UPDATE z SET z = z WHERE z")
	mustFail(t, api.ErrType, "UPDATE t SET z = z WHERE ^1")
	mustFail(t, api.ErrNone, "UPDATE t SET ^z = z, a = 1, a = 1 WHERE TRUE", "UPDATE t SET a = ^z, a = 1, b = 1 WHERE TRUE")
	mustFail(t, api.ErrWidth, "INSERT INTO t VALUES (z)")
	mustFail(t, api.ErrNone, "INSERT INTO t VALUES (^z, 1)")
}

// typedOf is the typed statement of a source.
func typedOf(t *testing.T, source string) api.Typed {
	t.Helper()
	s, _ := read(t, source)
	x, f := check.Check(defined(), given(), s)
	if f != (api.Fault{}) || !check.Right(defined(), given(), x) {
		t.Fatal(source, told(x), f)
	}
	return x
}

// Each change of what a source comes to leaves what no statement comes to.
func TestP132WrongParts(t *testing.T) {
	column := func(n, kind int) api.Term { return api.Term{Op: api.ExprColumn, Num: n, Type: kind} }
	for _, x := range []struct {
		source string
		change func(t *api.Typed)
	}{
		{"DELETE FROM t", func(t *api.Typed) { *t = api.Typed{} }},
		{"DELETE FROM t", func(t *api.Typed) { t.Kind = 0 }},
		{"DELETE FROM t", func(t *api.Typed) { t.Kind = 5 }},
		{"DELETE FROM t", func(t *api.Typed) { t.Kind = api.StmtSelect }},
		{"DELETE FROM t", func(t *api.Typed) { t.Tables = nil }},
		{"DELETE FROM t", func(t *api.Typed) { t.Tables[0] = -1 }},
		{"DELETE FROM t", func(t *api.Typed) { t.Tables[0] = 5 }},
		{"DELETE FROM t", func(t *api.Typed) { t.Tables = []int{0, 1} }},
		{"DELETE FROM t", func(t *api.Typed) { t.Tables, t.On = []int{0, 1}, []api.Term{column(3, api.Bool)} }},
		{"DELETE FROM t", func(t *api.Typed) { t.On = []api.Term{{Op: api.ExprValue}} }},
		{"DELETE FROM t", func(t *api.Typed) { t.Items = []api.Term{column(0, api.Int)} }},
		{"DELETE FROM t", func(t *api.Typed) { t.Columns = []int{0} }},
		{"DELETE FROM t", func(t *api.Typed) { t.Grouped = true }},
		{"DELETE FROM t", func(t *api.Typed) { t.Groups = []int{0} }},
		{"DELETE FROM t", func(t *api.Typed) { t.Sorts = []api.Sort{{Item: 1}} }},
		{"DELETE FROM t", func(t *api.Typed) { t.Limit = []int{1} }},
		{"DELETE FROM t", func(t *api.Typed) { t.Types = []int{1} }},
		{"DELETE FROM t WHERE a = 1", func(t *api.Typed) { t.Where = append(t.Where, t.Where...) }},
		{"DELETE FROM t WHERE a = 1", func(t *api.Typed) { t.Where = []api.Term{column(0, api.Int)} }},
		{"DELETE FROM t WHERE a = 1", func(t *api.Typed) { t.Where[0].Num = 7 }},
		{"DELETE FROM t WHERE a = 1", func(t *api.Typed) { t.Where[0].Num = 0 }},
		{"DELETE FROM t WHERE a = 1", func(t *api.Typed) { t.Where[0].Type = 0 }},
		{"DELETE FROM t WHERE a = 1", func(t *api.Typed) { t.Where[0].Kids[0].Num = 1 }},
		{"DELETE FROM t WHERE a = 1", func(t *api.Typed) { t.Where[0].Kids[0] = column(1, api.Text) }},
		{"DELETE FROM t WHERE a = 1", func(t *api.Typed) { t.Where[0].Kids[0] = column(2, api.Int) }},
		{"DELETE FROM t WHERE a = 1", func(t *api.Typed) { t.Where[0].Kids[0] = column(-1, api.Int) }},
		{"DELETE FROM t WHERE a = 1", func(t *api.Typed) { t.Where[0].Kids[0].Kids = []api.Term{column(0, api.Int)} }},
		{"DELETE FROM t WHERE a = 1", func(t *api.Typed) { t.Where[0].Kids[0].Value = t.Where[0].Kids[1].Value }},
		{"DELETE FROM t WHERE a = 1", func(t *api.Typed) { t.Where[0].Kids[1].Value.Int = -1 }},
		{"DELETE FROM t WHERE a = 1", func(t *api.Typed) { t.Where[0].Kids[1].Value.Text = "x" }},
		{"DELETE FROM t WHERE a = 1", func(t *api.Typed) { t.Where[0].Kids[1].Num = 1 }},
		{"DELETE FROM t WHERE a = 1", func(t *api.Typed) { t.Where[0].Kids[1].Type = 0 }},
		{"DELETE FROM t WHERE a = 1", func(t *api.Typed) { t.Where[0].Kids = t.Where[0].Kids[:1] }},
		{"DELETE FROM t WHERE a = 1", func(t *api.Typed) { t.Where[0].Kids = nil }},
		{"DELETE FROM t WHERE :q", func(t *api.Typed) { t.Where[0].Num = 4 }},
		{"DELETE FROM t WHERE :q", func(t *api.Typed) { t.Where[0].Num = -1 }},
		{"DELETE FROM t WHERE :q", func(t *api.Typed) { t.Where[0].Num = 0 }},
		{"DELETE FROM t WHERE NOT :q", func(t *api.Typed) { t.Where[0].Num = 1 }},
		{"DELETE FROM t WHERE NOT :q", func(t *api.Typed) { t.Where[0].Op = api.ExprMin }},
		{"DELETE FROM t WHERE NOT :q", func(t *api.Typed) { t.Where[0] = api.Term{Op: api.ExprCount, Type: api.Int} }},
		{"DELETE FROM t WHERE b IS NULL", func(t *api.Typed) { t.Where[0].Num = 2 }},
		{"INSERT INTO t VALUES (1, 'x')", func(t *api.Typed) { t.Items = t.Items[:1] }},
		{"INSERT INTO t VALUES (1, 'x')", func(t *api.Typed) { t.Items[0] = t.Items[1] }},
		{"INSERT INTO t VALUES (1, 'x')", func(t *api.Typed) { t.Items[0] = column(0, api.Int) }},
		{"INSERT INTO t VALUES (1, 'x')", func(t *api.Typed) { t.Types = []int{1, 3} }},
		{"INSERT INTO t VALUES (1, 'x')", func(t *api.Typed) { t.Columns = []int{0, 1} }},
		{"INSERT INTO t VALUES (1, 'x')", func(t *api.Typed) { t.Where = []api.Term{{Op: api.ExprValue}} }},
		{"INSERT INTO t VALUES (1, 'x')", func(t *api.Typed) { t.Tables[0] = 1 }},
		{"UPDATE t SET b = 'x', a = a", func(t *api.Typed) { t.Columns = t.Columns[:1] }},
		{"UPDATE t SET b = 'x', a = a", func(t *api.Typed) { t.Items = t.Items[:1] }},
		{"UPDATE t SET b = 'x', a = a", func(t *api.Typed) { t.Items, t.Columns = nil, nil }},
		{"UPDATE t SET b = 'x', a = a", func(t *api.Typed) { t.Columns = nil }},
		{"UPDATE t SET b = 'x', a = a", func(t *api.Typed) { t.Columns[0] = 0 }},
		{"UPDATE t SET b = 'x', a = a", func(t *api.Typed) { t.Columns = []int{0, 1} }},
		{"UPDATE t SET b = 'x', a = a", func(t *api.Typed) { t.Columns[0] = 2 }},
		{"UPDATE t SET b = 'x', a = a", func(t *api.Typed) { t.Columns[0] = -1 }},
		{"UPDATE t SET b = 'x', a = a", func(t *api.Typed) { t.Types = []int{3, 1} }},
		{"SELECT a, b FROM t ORDER BY 2", func(t *api.Typed) { t.Types = nil }},
		{"SELECT a, b FROM t ORDER BY 2", func(t *api.Typed) { t.Types[1] = 0 }},
		{"SELECT a, b FROM t ORDER BY 2", func(t *api.Typed) { t.Items, t.Types, t.Sorts = nil, nil, nil }},
		{"SELECT a, b FROM t ORDER BY 2", func(t *api.Typed) { t.Grouped = true }},
		{"SELECT a, b FROM t ORDER BY 2", func(t *api.Typed) { t.Sorts[0].Item = 3 }},
		{"SELECT a, b FROM t ORDER BY 2", func(t *api.Typed) { t.Sorts[0].Item = 0 }},
		{"SELECT a, b FROM t ORDER BY 2", func(t *api.Typed) { t.Sorts[0].At = 1 }},
		{"SELECT a, b FROM t ORDER BY 2", func(t *api.Typed) { t.Sorts = slices.Repeat(t.Sorts, 9) }},
		{"SELECT a, b FROM t ORDER BY 2", func(t *api.Typed) { t.Items, t.Types = slices.Repeat(t.Items, 8), slices.Repeat(t.Types, 8) }},
		{"SELECT a, b FROM t LIMIT 1", func(t *api.Typed) { t.Limit[0] = -1 }},
		{"SELECT a, b FROM t LIMIT 1", func(t *api.Typed) { t.Limit[0] = 1<<62 + 1 }},
		{"SELECT a, b FROM t LIMIT 1", func(t *api.Typed) { t.Limit = []int{1, 1} }},
		{"SELECT t.a FROM t JOIN u ON c", func(t *api.Typed) { t.On = nil }},
		{"SELECT t.a FROM t JOIN u ON c", func(t *api.Typed) { t.On = append(t.On, t.On...) }},
		{"SELECT t.a FROM t JOIN u ON c", func(t *api.Typed) { t.Tables[1] = 0 }},
		{"SELECT t.a FROM t JOIN u ON c", func(t *api.Typed) { t.Tables = t.Tables[:1] }},
		{"SELECT t.a FROM t JOIN u ON c", func(t *api.Typed) { t.Tables = []int{0, 1, 4} }},
		{"SELECT t.a FROM t JOIN u ON c", func(t *api.Typed) { t.Tables = []int{0, 5} }},
		{"SELECT a, SUM(a) FROM t GROUP BY a", func(t *api.Typed) { t.Grouped = false }},
		{"SELECT a, SUM(a) FROM t GROUP BY a", func(t *api.Typed) { t.Groups = nil }},
		{"SELECT a, SUM(a) FROM t GROUP BY a", func(t *api.Typed) { t.Groups = []int{0, 0} }},
		{"SELECT a, SUM(a) FROM t GROUP BY a", func(t *api.Typed) { t.Groups = []int{0, 2} }},
		{"SELECT a, SUM(a) FROM t GROUP BY a", func(t *api.Typed) { t.Groups = []int{-1, 0} }},
		{"SELECT a, SUM(a) FROM t GROUP BY a", func(t *api.Typed) { t.Groups[0] = 1 }},
		{"SELECT a, SUM(a) FROM t GROUP BY a", func(t *api.Typed) { t.Items[1].Kids[0] = t.Items[1] }},
		{"SELECT COUNT(*) FROM t", func(t *api.Typed) { t.Items[0].Kids = []api.Term{column(0, api.Int)} }},
		{"SELECT COUNT(*) FROM t", func(t *api.Typed) { t.Grouped = false }},
		{"SELECT * FROM w", func(t *api.Typed) { t.Items[3], t.Items[4] = t.Items[4], t.Items[3] }},
		{"SELECT * FROM w", func(t *api.Typed) { t.Items, t.Types = t.Items[:9], t.Types[:9] }},
		{"SELECT * FROM w", func(t *api.Typed) { t.Groups, t.Grouped = []int{0}, true }},
		{"SELECT * FROM w", func(t *api.Typed) {
			t.Tables, t.On = []int{2, 4}, []api.Term{column(16, api.Bool)}
			t.Items, t.Types = append(t.Items, column(16, api.Bool)), append(t.Types, api.Bool)
		}},
		{"SELECT c0, c1, c2, c3, c4, c5, c6, c7 FROM w", func(t *api.Typed) { t.Items, t.Types = append(t.Items, column(8, 1)), append(t.Types, 1) }},
		{"SELECT COUNT(*) FROM w GROUP BY c0, c1, c2, c3, c4, c5, c6, c7", func(t *api.Typed) { t.Groups = append(t.Groups, 8) }},
	} {
		typed := typedOf(t, x.source)
		x.change(&typed)
		if check.Right(defined(), given(), typed) {
			t.Errorf("%s is right", told(typed))
		}
	}
}

// What other statements come to is right.
func TestP132RightParts(t *testing.T) {
	eight := typedOf(t, "SELECT c0, c1, c2, c3, c4, c5, c6, c7 FROM w WHERE c0 = c1 AND c2 = c3")
	eight.Items[7] = eight.Items[0]
	eight.Where[0].Op = api.ExprOr
	eight.Sorts = slices.Repeat([]api.Sort{{Item: 8, Desc: true}}, 8)
	star := typedOf(t, "SELECT * FROM w")
	star.Sorts, star.Limit, star.Where = []api.Sort{{Item: 16}}, []int{1 << 62}, []api.Term{{Op: api.ExprColumn, Num: 15, Type: api.Bool}}
	joined := typedOf(t, "SELECT t.a FROM t JOIN u ON t.a = u.a")
	joined.Tables = []int{1, 0}
	joined.On[0].Kids[1].Num = 0
	grouped := typedOf(t, "SELECT a, SUM(a) FROM t GROUP BY a")
	grouped.Groups = []int{1, 0}
	update := typedOf(t, "UPDATE t SET a = 1")
	update.Columns, update.Items = []int{1, 0}, []api.Term{{Op: api.ExprValue}, update.Items[0]}
	for _, x := range []api.Typed{eight, star, joined, grouped, update} {
		if !check.Right(defined(), given(), x) {
			t.Errorf("%s is not right", told(x))
		}
	}
	if check.Right(defined(), nil, typedOf(t, "DELETE FROM t WHERE :q")) || check.Right(api.Catalog{}, given(), typedOf(t, "DELETE FROM t")) {
		t.Error("right without what it names")
	}
}

// Terms of the greatest depth are right, deeper ones not, and least of all those that hold themselves.
func TestP132Depth(t *testing.T) {
	for _, kind := range []int{api.ExprNot, api.ExprAnd} {
		e := api.Term{Op: api.ExprValue, Type: api.Bool, Value: api.Value{Kind: api.Bool, Int: 1}}
		for depth := 1; depth <= 40; depth++ {
			if got := check.Right(defined(), given(), api.Typed{Kind: api.StmtDelete, Tables: []int{0}, Where: []api.Term{e}}); got != (depth <= 16) {
				t.Errorf("of depth %d: %v", depth, got)
			}
			kids := []api.Term{e}
			if kind == api.ExprAnd {
				kids = append(kids, api.Term{Op: api.ExprValue})
			}
			e = api.Term{Op: kind, Type: api.Bool, Kids: kids}
		}
	}
	loop := slices.Repeat([]api.Term{{Op: api.ExprAnd, Type: api.Bool}}, 8)
	for i := range loop {
		loop[i].Kids = loop
	}
	for _, x := range []api.Typed{
		{Kind: api.StmtDelete, Tables: []int{0}, Where: loop[:1]},
		{Kind: api.StmtSelect, Tables: []int{0, 1}, On: loop[:1], Items: []api.Term{{Op: api.ExprValue}}, Types: []int{0}},
		{Kind: api.StmtSelect, Tables: []int{0}, Items: loop, Types: slices.Repeat([]int{2}, 8)},
		{Kind: api.StmtInsert, Tables: []int{4}, Items: loop[:1]},
		{Kind: api.StmtUpdate, Tables: []int{0}, Items: loop[:1], Columns: []int{1}},
	} {
		if check.Right(defined(), given(), x) {
			t.Error("what holds itself is right")
		}
	}
}
