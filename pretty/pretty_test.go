package pretty_test

import (
	"strings"
	"testing"

	"unison/api"
	"unison/pretty"
	"unison/syntax"
)

func number(n int) api.Expr {
	return api.Expr{Kind: api.ExprValue, Value: api.Value{Kind: api.Int, Int: n}}
}

func text(s string) api.Expr {
	return api.Expr{Kind: api.ExprValue, Value: api.Value{Kind: api.Text, Text: s}}
}

func truth(n int) api.Expr {
	return api.Expr{Kind: api.ExprValue, Value: api.Value{Kind: api.Bool, Int: n}}
}

func null() api.Expr { return api.Expr{Kind: api.ExprValue} }

func param(name string) api.Expr { return api.Expr{Kind: api.ExprParam, Name: name} }

func column(name string) api.Expr { return api.Expr{Kind: api.ExprColumn, Name: name} }

func columnOf(table, name string) api.Expr {
	return api.Expr{Kind: api.ExprColumn, Table: table, Name: name}
}

func over(kind, op int, kids ...api.Expr) api.Expr {
	return api.Expr{Kind: kind, Op: op, Kids: kids}
}

func neg(e api.Expr) api.Expr { return over(api.ExprNeg, 0, e) }

func one(e api.Expr) []api.Expr { return []api.Expr{e} }

func deletion(e api.Expr) api.Stmt {
	return api.Stmt{Kind: api.StmtDelete, Table: "t", Where: one(e)}
}

func selection(l ...api.Expr) api.Stmt {
	return api.Stmt{Kind: api.StmtSelect, Table: "t", Items: l}
}

func insertion(l ...api.Expr) api.Stmt {
	return api.Stmt{Kind: api.StmtInsert, Table: "t", Items: l}
}

// mustPrint holds the text of a statement against the one that is wanted, and the statement against what is read of the text.
func mustPrint(t *testing.T, s api.Stmt, want string) {
	t.Helper()
	got, e := pretty.Print(s)
	if got != want || e != api.OK {
		t.Errorf("Print(%+v) = %q, %v; want %q", s, got, e, want)
	}
	if read, f := syntax.Parse(got); f != (api.Fault{}) || !syntax.Same(read, s) {
		t.Errorf("Parse(%q) = %+v, %v; want %+v", got, read, f, s)
	}
}

// mustPrintExpr holds the text of an expression behind a WHERE against the one that is wanted.
func mustPrintExpr(t *testing.T, e api.Expr, want string) {
	t.Helper()
	mustPrint(t, deletion(e), "DELETE FROM t WHERE "+want)
}

// mustReprint holds the text of a source's statement against the one that is wanted.
func mustReprint(t *testing.T, source, want string) {
	t.Helper()
	s, f := syntax.Parse(source)
	if f != (api.Fault{}) {
		t.Fatalf("Parse(%q): %v", source, f)
	}
	mustPrint(t, s, want)
}

func mustRefuse(t *testing.T, s api.Stmt, want api.Errno) {
	t.Helper()
	if got, e := pretty.Print(s); got != "" || e != want {
		t.Errorf("Print(%+v) = %q, %v; want none, %v", s, got, e, want)
	}
}

func TestExamples(t *testing.T) {
	mustReprint(t, "SELECT a,b+1 FROM t WHERE ((a=1)) AND (b=2 OR TRUE);", "SELECT a, b + 1 FROM t WHERE a = 1 AND (b = 2 OR TRUE)")
	mustReprint(t, "DELETE FROM t WHERE NOT (NOT a) AND (a AND b)", "DELETE FROM t WHERE NOT NOT a AND (a AND b)")
	mustReprint(t, "UPDATE t SET a = a-(b-1), b = -(-1)*2", "UPDATE t SET a = a - (b - 1), b = - -1 * 2")
	mustReprint(t, "SELECT (a = 1) = TRUE, (a IS NULL) IS NULL FROM t", "SELECT (a = 1) = TRUE, (a IS NULL) IS NULL FROM t")
	mustRefuse(t, insertion(number(-1)), api.ErrTree)
	mustRefuse(t, selection(api.Expr{Kind: 15}), api.ErrTree)
}

func TestP121Statements(t *testing.T) {
	mustPrint(t, insertion(column("a")), "INSERT INTO t VALUES (a)")
	mustPrint(t, insertion(number(1), text("x"), over(api.ExprOr, 0, null(), param("p"))), "INSERT INTO t VALUES (1, 'x', NULL OR :p)")
	mustPrint(t, api.Stmt{Kind: api.StmtUpdate, Table: "t1", Sets: []api.Set{{Name: "a", Expr: over(api.ExprCompare, api.CmpEq, column("b"), column("c"))}}}, "UPDATE t1 SET a = b = c")
	mustPrint(t, api.Stmt{Kind: api.StmtUpdate, Table: "t", Sets: []api.Set{{Name: "a", Expr: null()}, {Name: "b", Expr: over(api.ExprOr, 0, column("b"), column("c"))}}, Where: one(truth(1))}, "UPDATE t SET a = NULL, b = b OR c WHERE TRUE")
	mustPrint(t, api.Stmt{Kind: api.StmtDelete, Table: "t"}, "DELETE FROM t")
	mustPrint(t, deletion(truth(0)), "DELETE FROM t WHERE FALSE")
	mustPrint(t, api.Stmt{Kind: api.StmtSelect, Table: "t", Star: true}, "SELECT * FROM t")
	mustPrint(t, selection(column("a")), "SELECT a FROM t")
}

// All clauses of a select, each one alone too.
func TestP121Clauses(t *testing.T) {
	all := api.Stmt{Kind: api.StmtSelect, Table: "t", Items: []api.Expr{column("a"), columnOf("t", "b")}, Join: "u", On: one(columnOf("u", "c")), Where: one(column("d")),
		Groups: []api.Expr{column("c"), columnOf("t", "d")}, Sorts: []api.Sort{{Item: 1, Desc: true}, {Item: 2}, {Item: 0}}, Limit: []int{5}}
	mustPrint(t, all, "SELECT a, t.b FROM t JOIN u ON u.c WHERE d GROUP BY c, t.d ORDER BY 1 DESC, 2, 0 LIMIT 5")
	head := selection(column("a"))
	for want, change := range map[string]func(s *api.Stmt){
		"SELECT * FROM t JOIN u ON u.c":             func(s *api.Stmt) { s.Items, s.Star, s.Join, s.On = nil, true, all.Join, all.On },
		"SELECT a FROM t JOIN u ON u.c":             func(s *api.Stmt) { s.Join, s.On = all.Join, all.On },
		"SELECT a FROM t WHERE d":                   func(s *api.Stmt) { s.Where = all.Where },
		"SELECT a FROM t GROUP BY c, t.d":           func(s *api.Stmt) { s.Groups = all.Groups },
		"SELECT a FROM t GROUP BY c":                func(s *api.Stmt) { s.Groups = all.Groups[:1] },
		"SELECT a FROM t ORDER BY 1 DESC, 2, 0":     func(s *api.Stmt) { s.Sorts = all.Sorts },
		"SELECT a FROM t ORDER BY 2":                func(s *api.Stmt) { s.Sorts = all.Sorts[1:2] },
		"SELECT a FROM t ORDER BY 1 DESC LIMIT 5":   func(s *api.Stmt) { s.Sorts, s.Limit = all.Sorts[:1], all.Limit },
		"SELECT a FROM t LIMIT 0":                   func(s *api.Stmt) { s.Limit = []int{0} },
		"SELECT a FROM t LIMIT 4611686018427387904": func(s *api.Stmt) { s.Limit = []int{1 << 62} },
		"SELECT a FROM t JOIN u ON u.c OR u.c":      func(s *api.Stmt) { s.Join, s.On = "u", one(over(api.ExprOr, 0, all.On[0], all.On[0])) },
		"SELECT a FROM t WHERE a OR b":              func(s *api.Stmt) { s.Where = one(over(api.ExprOr, 0, column("a"), column("b"))) },
		"SELECT a OR b, COUNT(*) FROM t": func(s *api.Stmt) {
			s.Items = []api.Expr{over(api.ExprOr, 0, column("a"), column("b")), over(api.ExprCount, 0)}
		},
		"SELECT SUM(a OR b), MIN(a), MAX(-a) FROM t": func(s *api.Stmt) { s.Items = overRows() },
	} {
		s := head
		change(&s)
		mustPrint(t, s, want)
	}
}

func overRows() []api.Expr {
	a, b := column("a"), column("b")
	return []api.Expr{over(api.ExprSum, 0, over(api.ExprOr, 0, a, b)), over(api.ExprMin, 0, a), over(api.ExprMax, 0, neg(a))}
}

func TestP121Expressions(t *testing.T) {
	a, b, c := column("a"), column("b"), column("c")
	mustPrintExpr(t, number(0), "0")
	mustPrintExpr(t, number(1<<62), "4611686018427387904")
	mustPrintExpr(t, text(""), "''")
	mustPrintExpr(t, text("it's\n\\"), `'it''s\0a\5c'`)
	mustPrintExpr(t, text("-- WHERE (a)  AND b;"), "'-- WHERE (a)  AND b;'")
	mustPrintExpr(t, truth(1), "TRUE")
	mustPrintExpr(t, truth(0), "FALSE")
	mustPrintExpr(t, null(), "NULL")
	mustPrintExpr(t, param("p_1"), ":p_1")
	mustPrintExpr(t, columnOf("t", "a"), "t.a")
	mustPrintExpr(t, neg(a), "-a")
	mustPrintExpr(t, neg(number(1)), "-1")
	mustPrintExpr(t, neg(neg(a)), "- -a")
	mustPrintExpr(t, neg(neg(neg(text("-")))), "- - -'-'")
	mustPrintExpr(t, neg(over(api.ExprArith, api.OpMul, neg(a), b)), "-(-a * b)")
	for op, sign := range []string{"", "+", "-", "*", "/", "%"} {
		if op > 0 {
			mustPrintExpr(t, over(api.ExprArith, op, a, b), "a "+sign+" b")
			mustPrintExpr(t, over(api.ExprArith, op, a, neg(b)), "a "+sign+" -b")
		}
	}
	for op, sign := range []string{"", "=", "<>", "<", "<=", ">", ">="} {
		if op > 0 {
			mustPrintExpr(t, over(api.ExprCompare, op, a, b), "a "+sign+" b")
		}
	}
	mustPrintExpr(t, over(api.ExprNull, 0, a), "a IS NULL")
	mustPrintExpr(t, over(api.ExprNull, 1, a), "a IS NOT NULL")
	mustPrintExpr(t, over(api.ExprNot, 0, a), "NOT a")
	mustPrintExpr(t, over(api.ExprAnd, 0, a, b), "a AND b")
	mustPrintExpr(t, over(api.ExprOr, 0, a, b, c), "a OR b OR c")
	mustPrintExpr(t, over(api.ExprAnd, 0, a, b, c, a, b, c, a, b), "a AND b AND c AND a AND b AND c AND a AND b")
}

// Where brackets stand, and where they don't: each kind of Kid, at each place of each kind.
func TestP121Brackets(t *testing.T) {
	x, y := column("x"), column("y")
	kids := []struct {
		e    api.Expr
		text string
		rank int
	}{
		{over(api.ExprOr, 0, x, y), "x OR y", 1},
		{over(api.ExprAnd, 0, x, y), "x AND y", 2},
		{over(api.ExprNot, 0, x), "NOT x", 3},
		{over(api.ExprCompare, api.CmpEq, x, y), "x = y", 4},
		{over(api.ExprCompare, api.CmpGe, x, y), "x >= y", 4},
		{over(api.ExprNull, 0, x), "x IS NULL", 4},
		{over(api.ExprNull, 1, x), "x IS NOT NULL", 4},
		{over(api.ExprArith, api.OpAdd, x, y), "x + y", 5},
		{over(api.ExprArith, api.OpSub, x, y), "x - y", 5},
		{over(api.ExprArith, api.OpMul, x, y), "x * y", 6},
		{over(api.ExprArith, api.OpDiv, x, y), "x / y", 6},
		{over(api.ExprArith, api.OpMod, x, y), "x % y", 6},
		{neg(x), "-x", 7},
		{x, "x", 7},
		{columnOf("t", "x"), "t.x", 7},
		{param("x"), ":x", 7},
		{number(3), "3", 7},
		{text("x"), "'x'", 7},
		{truth(1), "TRUE", 7},
		{null(), "NULL", 7},
	}
	for _, k := range kids {
		at := func(need int) string {
			if k.rank < need {
				return "(" + k.text + ")"
			}
			return k.text
		}
		a := column("a")
		mustPrintExpr(t, over(api.ExprOr, 0, k.e, a), at(2)+" OR a")
		mustPrintExpr(t, over(api.ExprOr, 0, a, a, k.e, a), "a OR a OR "+at(2)+" OR a")
		mustPrintExpr(t, over(api.ExprOr, 0, a, k.e), "a OR "+at(2))
		mustPrintExpr(t, over(api.ExprAnd, 0, k.e, a), at(3)+" AND a")
		mustPrintExpr(t, over(api.ExprAnd, 0, a, a, k.e, a), "a AND a AND "+at(3)+" AND a")
		mustPrintExpr(t, over(api.ExprAnd, 0, a, k.e), "a AND "+at(3))
		mustPrintExpr(t, over(api.ExprNot, 0, k.e), "NOT "+at(3))
		for op, sign := range []string{"=", "<>", "<", "<=", ">", ">="} {
			mustPrintExpr(t, over(api.ExprCompare, op+1, k.e, a), at(5)+" "+sign+" a")
			mustPrintExpr(t, over(api.ExprCompare, op+1, a, k.e), "a "+sign+" "+at(5))
		}
		mustPrintExpr(t, over(api.ExprNull, 0, k.e), at(5)+" IS NULL")
		mustPrintExpr(t, over(api.ExprNull, 1, k.e), at(5)+" IS NOT NULL")
		for op, sign := range []string{"+", "-"} {
			mustPrintExpr(t, over(api.ExprArith, op+1, k.e, a), at(5)+" "+sign+" a")
			mustPrintExpr(t, over(api.ExprArith, op+1, a, k.e), "a "+sign+" "+at(6))
		}
		for op, sign := range []string{"*", "/", "%"} {
			mustPrintExpr(t, over(api.ExprArith, op+3, k.e, a), at(6)+" "+sign+" a")
			mustPrintExpr(t, over(api.ExprArith, op+3, a, k.e), "a "+sign+" "+at(7))
		}
		mustPrintExpr(t, neg(k.e), strings.Replace("-"+at(7), "--", "- -", 1))
		for kind, word := range map[int]string{api.ExprSum: "SUM", api.ExprMin: "MIN", api.ExprMax: "MAX"} {
			mustPrint(t, selection(over(kind, 0, k.e)), "SELECT "+word+"("+k.text+") FROM t")
		}
		mustPrint(t, selection(k.e, k.e), "SELECT "+k.text+", "+k.text+" FROM t")
		mustPrint(t, insertion(k.e, k.e), "INSERT INTO t VALUES ("+k.text+", "+k.text+")")
		mustPrint(t, api.Stmt{Kind: api.StmtUpdate, Table: "t", Sets: []api.Set{{Name: "c", Expr: k.e}}, Where: one(k.e)}, "UPDATE t SET c = "+k.text+" WHERE "+k.text)
		mustPrint(t, api.Stmt{Kind: api.StmtSelect, Table: "t", Star: true, Join: "u", On: one(k.e)}, "SELECT * FROM t JOIN u ON "+k.text)
	}
}

func TestP121WrongStatements(t *testing.T) {
	a := column("a")
	for _, s := range []api.Stmt{
		{},
		{Kind: 5, Table: "t"},
		{Kind: -1, Table: "t"},
		{Kind: api.StmtDelete},
		{Kind: api.StmtDelete, Table: "T"},
		{Kind: api.StmtDelete, Table: "t WHERE TRUE"},
		{Kind: api.StmtDelete, Table: "abcdefghijklmnopq"},
		{Kind: api.StmtDelete, Table: "t", Star: true},
		{Kind: api.StmtDelete, Table: "t", Limit: []int{1}},
		{Kind: api.StmtDelete, Table: "t", Where: []api.Expr{a, a}},
		{Kind: api.StmtInsert, Table: "t"},
		{Kind: api.StmtInsert, Table: "t", Items: one(a), Where: one(a)},
		{Kind: api.StmtUpdate, Table: "t"},
		{Kind: api.StmtUpdate, Table: "t", Sets: []api.Set{{Expr: a}}},
		{Kind: api.StmtSelect, Table: "t"},
		{Kind: api.StmtSelect, Table: "t", Star: true, Items: one(a)},
		{Kind: api.StmtSelect, Table: "t", Star: true, Join: "u"},
		{Kind: api.StmtSelect, Table: "t", Star: true, On: one(a)},
		{Kind: api.StmtSelect, Table: "t", Star: true, Groups: one(number(1))},
		{Kind: api.StmtSelect, Table: "t", Star: true, Sorts: []api.Sort{{Item: -1}}},
		{Kind: api.StmtSelect, Table: "t", Star: true, Limit: []int{-1}},
		{Kind: api.StmtSelect, Table: "t", Star: true, Limit: []int{1<<62 + 1}},
		{Kind: api.StmtSelect, Table: "t", Star: true, Limit: []int{1, 1}},
		insertion(make([]api.Expr, 17)...),
		insertion(over(api.ExprCount, 0)),
		selection(over(api.ExprSum, 0, over(api.ExprMax, 0, a))),
		selection(make([]api.Expr, 9)...),
	} {
		mustRefuse(t, s, api.ErrTree)
	}
	for _, e := range []api.Expr{
		{},
		{Kind: 15},
		{Kind: -1},
		number(1<<62 + 1),
		text(strings.Repeat("x", 65)),
		{Kind: api.ExprValue, Value: api.Value{Kind: 9}},
		{Kind: api.ExprParam},
		{Kind: api.ExprColumn, Name: "a b"},
		{Kind: api.ExprColumn, Table: "t"},
		over(api.ExprNeg, 0),
		over(api.ExprNeg, 1, a),
		over(api.ExprNot, 0, a, a),
		over(api.ExprArith, 0, a, a),
		over(api.ExprArith, 6, a, a),
		over(api.ExprArith, 1, a),
		over(api.ExprCompare, 7, a, a),
		over(api.ExprNull, 2, a),
		over(api.ExprAnd, 0, a),
		over(api.ExprOr, 0, a, a, a, a, a, a, a, a, a),
		over(api.ExprCount, 0),
		over(api.ExprMin, 0, a),
	} {
		mustRefuse(t, deletion(e), api.ErrTree)
		mustRefuse(t, deletion(over(api.ExprNot, 0, e)), api.ErrTree)
		mustRefuse(t, selection(a, over(api.ExprSum, 0, e)), api.ErrTree)
	}
}

// The greatest depth is printed, one more is refused.
func TestP121Depth(t *testing.T) {
	e := column("a")
	for range 15 {
		e = over(api.ExprNot, 0, e)
	}
	mustPrintExpr(t, e, strings.Repeat("NOT ", 15)+"a")
	mustRefuse(t, deletion(over(api.ExprNot, 0, e)), api.ErrTree)
	e = column("a")
	for range 15 {
		e = over(api.ExprArith, api.OpSub, column("b"), e)
	}
	mustPrintExpr(t, e, strings.Repeat("b - (", 14)+"b - a"+strings.Repeat(")", 14))
	mustRefuse(t, deletion(neg(e)), api.ErrTree)
	loop := one(column("a"))
	loop[0] = neg(neg(column("a")))
	loop[0].Kids = loop
	mustRefuse(t, selection(loop...), api.ErrTree)
}

// longest are statements of all kinds, each with so many bytes in texts; each ends otherwise.
func longest(size int) []api.Stmt {
	fill := over(api.ExprOr, 0)
	for range 4 {
		fill.Kids = append(fill.Kids, text(strings.Repeat("x", min(size, 64))))
		size = max(0, size-64)
	}
	var exprs []api.Expr
	var sets []api.Set
	for range 16 {
		exprs = append(exprs, over(api.ExprCompare, api.CmpNe, text(strings.Repeat("\n", 14)), null()))
		sets = append(sets, api.Set{Name: "abcdefghijklmnop", Expr: text(strings.Repeat("x", 35))})
	}
	last := func(e api.Expr) []api.Expr { return append(append([]api.Expr{}, exprs[:15]...), e) }
	row := over(api.ExprAnd, 0, exprs[:8]...)
	long := api.Stmt{Kind: api.StmtSelect, Table: "t", Items: append(append([]api.Expr{}, exprs[:6]...), fill), Where: one(row)}
	sorted, limited, grouped, dotted, descending := long, long, long, long, long
	sorted.Sorts = []api.Sort{{Item: 1}, {Item: 12345}}
	descending.Sorts = []api.Sort{{Item: 1}, {Item: 2, Desc: true}}
	limited.Limit = []int{123456789}
	grouped.Groups = []api.Expr{column("a"), column("bcdefg")}
	dotted.Groups = []api.Expr{column("a"), columnOf("bcdefg", "hijk")}
	return []api.Stmt{
		insertion(last(fill)...),
		insertion(last(over(api.ExprNull, 1, fill))...),
		{Kind: api.StmtUpdate, Table: "t", Sets: append(append([]api.Set{}, sets[:15]...), api.Set{Name: "a", Expr: fill})},
		{Kind: api.StmtUpdate, Table: "t", Sets: append(append([]api.Set{}, sets[:15]...), api.Set{Name: "a", Expr: fill}), Where: one(over(api.ExprNull, 0, column("a")))},
		deletion(over(api.ExprOr, 0, row, row, fill)),
		deletion(over(api.ExprAnd, 0, row, row, neg(fill))),
		long, sorted, limited, grouped, dotted, descending,
	}
}

// What has MaxSource bytes is told, what has one more is not.
func TestP121Long(t *testing.T) {
	kinds := len(longest(0))
	for i := range kinds {
		told, least := 0, 1001
		for size := range 257 {
			s := longest(size)[i]
			want := plain(s)
			if len(want) <= 1000 {
				mustPrint(t, s, want)
				told = max(told, len(want))
			} else {
				mustRefuse(t, s, api.ErrLong)
				least = min(least, len(want))
			}
		}
		if told != 1000 || least != 1001 {
			t.Errorf("the statements %d: %d, %d; %d to %d bytes", i, told, least, len(plain(longest(0)[i])), len(plain(longest(256)[i])))
		}
	}
}

// A statement that is not right is no long one.
func TestP121TreeFirst(t *testing.T) {
	l := make([]api.Expr, 16)
	for i := range l {
		l[i] = text(strings.Repeat("x", 64))
	}
	mustRefuse(t, insertion(l...), api.ErrLong)
	mustRefuse(t, insertion(append(l[:15:15], number(-1))...), api.ErrTree)
	mustRefuse(t, insertion(append(l, l[0])...), api.ErrTree)
}

// Much longer ones than any source are refused likewise.
func TestP121VeryLong(t *testing.T) {
	e := column("a")
	for range 6 {
		e = over(api.ExprAnd, 0, e, e, e, e, e, e, e, e)
	}
	mustRefuse(t, deletion(e), api.ErrLong)
	mustRefuse(t, selection(e, e, e), api.ErrLong)
	mustRefuse(t, selection(e, number(-1)), api.ErrTree)
}

func TestP122Sources(t *testing.T) {
	for source, want := range map[string]string{
		"\n INSERT\tINTO t VALUES(((1)),--one\n(:p)OR'x' ) ; -- end": "INSERT INTO t VALUES (1, :p OR 'x')",
		"SELECT(a)FROM t LIMIT 3;":                                   "SELECT a FROM t LIMIT 3",
		"SELECT COUNT ( * ) , SUM ( ( a ) ) FROM t":                  "SELECT COUNT(*), SUM(a) FROM t",
		"SELECT a FROM t WHERE ((a OR b) OR c) OR d":                 "SELECT a FROM t WHERE ((a OR b) OR c) OR d",
		"SELECT a FROM t WHERE ((a+b)+c)+d":                          "SELECT a FROM t WHERE a + b + c + d",
		"SELECT a FROM t WHERE a*(b*(c*d))":                          "SELECT a FROM t WHERE a * (b * (c * d))",
		"SELECT a FROM t WHERE (a AND b) OR (c AND (NOT d))":         "SELECT a FROM t WHERE a AND b OR c AND NOT d",
		"SELECT a FROM t WHERE - - - 1 - -(-1)":                      "SELECT a FROM t WHERE - - -1 - - -1",
		"SELECT a FROM t WHERE -(1) - (-(1+1))":                      "SELECT a FROM t WHERE -1 - -(1 + 1)",
		"SELECT a FROM t WHERE (NOT a) = (b = c)":                    "SELECT a FROM t WHERE (NOT a) = (b = c)",
		"SELECT a FROM t WHERE NOT (a = (b + 1))":                    "SELECT a FROM t WHERE NOT a = b + 1",
		"SELECT a FROM t WHERE (a * 2) IS NULL AND (-a) IS NOT NULL": "SELECT a FROM t WHERE a * 2 IS NULL AND -a IS NOT NULL",
		"UPDATE t SET a=(b=(c=d))WHERE(a)":                           "UPDATE t SET a = b = (c = d) WHERE a",
		"SELECT t . a FROM t JOIN u ON(t . a=u.b)GROUP BY t . a":     "SELECT t.a FROM t JOIN u ON t.a = u.b GROUP BY t.a",
	} {
		mustReprint(t, source, want)
		mustReprint(t, want, want)
	}
}

// A source that has room for no more grows by its blanks: it is too long then.
func TestP122NoRoom(t *testing.T) {
	var l []string
	for range 15 {
		l = append(l, "a+b*c-d/e%f=a+b*c-d/e%f AND a<b OR c>d")
	}
	s, f := syntax.Parse("INSERT INTO t VALUES(" + strings.Join(l, ",") + ")")
	if f != (api.Fault{}) {
		t.Fatal(f)
	}
	mustRefuse(t, s, api.ErrLong)
}
