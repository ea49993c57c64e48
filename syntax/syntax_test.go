package syntax_test

import (
	"reflect"
	"strings"
	"testing"

	"unison/api"
	"unison/syntax"
)

func number(at, n int) api.Expr {
	return api.Expr{Kind: api.ExprValue, Value: api.Value{Kind: api.Int, Int: n}, At: at}
}

func text(at int, s string) api.Expr {
	return api.Expr{Kind: api.ExprValue, Value: api.Value{Kind: api.Text, Text: s}, At: at}
}

func truth(at, n int) api.Expr {
	return api.Expr{Kind: api.ExprValue, Value: api.Value{Kind: api.Bool, Int: n}, At: at}
}

func null(at int) api.Expr { return api.Expr{Kind: api.ExprValue, At: at} }

func param(at int, name string) api.Expr {
	return api.Expr{Kind: api.ExprParam, Name: name, At: at}
}

func column(at int, name string) api.Expr {
	return api.Expr{Kind: api.ExprColumn, Name: name, At: at}
}

func columnOf(at int, table, name string) api.Expr {
	return api.Expr{Kind: api.ExprColumn, Table: table, Name: name, At: at}
}

func over(kind, op, at int, kids ...api.Expr) api.Expr {
	return api.Expr{Kind: kind, Op: op, Kids: kids, At: at}
}

func one(e api.Expr) []api.Expr { return []api.Expr{e} }

// mustRead holds the statement of a source, its places too, against the one that is wanted.
func mustRead(t *testing.T, s string, want api.Stmt) {
	t.Helper()
	got, f := syntax.Parse(s)
	if f != (api.Fault{}) || !reflect.DeepEqual(bare(got, false), bare(want, false)) {
		t.Errorf("Parse(%q) = %+v, %v; want %+v", s, got, f, want)
	}
	if !syntax.Right(got) || !syntax.Right(want) || !syntax.Same(got, want) {
		t.Errorf("%q: what is read is right %v, what is wanted %v, and both are the same %v", s, syntax.Right(got), syntax.Right(want), syntax.Same(got, want))
	}
}

// mustRefuse holds what is wrong with a source, and where, against what is wanted.
func mustRefuse(t *testing.T, s string, code api.Errno, at int) {
	t.Helper()
	got, f := syntax.Parse(s)
	if f != (api.Fault{Code: code, At: at}) || !reflect.DeepEqual(bare(got, false), api.Stmt{}) {
		t.Errorf("Parse(%.80q) = %+v, %v; want none, %v", s, got, f, api.Fault{Code: code, At: at})
	}
}

// mustWhere holds the expression behind a WHERE, whose first byte is at 20, against the one that is wanted.
func mustWhere(t *testing.T, s string, want api.Expr) {
	t.Helper()
	mustRead(t, "DELETE FROM t WHERE "+s, api.Stmt{Kind: api.StmtDelete, Table: "t", Where: one(want)})
}

func TestExamples(t *testing.T) {
	mustRead(t, "INSERT INTO t VALUES (1, :p, 'x');", api.Stmt{Kind: api.StmtInsert, Table: "t", Items: []api.Expr{number(22, 1), param(25, "p"), text(29, "x")}})
	mustRead(t, "SELECT a, COUNT(*) FROM t WHERE a < 3 AND b IS NOT NULL GROUP BY a ORDER BY 2 DESC, 1 LIMIT 5", api.Stmt{
		Kind: api.StmtSelect, Table: "t", Items: []api.Expr{column(7, "a"), over(api.ExprCount, 0, 10)},
		Where:  one(over(api.ExprAnd, 0, 38, over(api.ExprCompare, api.CmpLt, 34, column(32, "a"), number(36, 3)), over(api.ExprNull, 1, 44, column(42, "b")))),
		Groups: one(column(65, "a")), Sorts: []api.Sort{{Item: 2, Desc: true, At: 76}, {Item: 1, At: 84}}, Limit: []int{5}})
	mustRead(t, "SELECT * FROM t JOIN u ON t.a = u.b", api.Stmt{Kind: api.StmtSelect, Table: "t", Star: true, Join: "u", JoinAt: 21,
		On: one(over(api.ExprCompare, api.CmpEq, 30, columnOf(26, "t", "a"), columnOf(32, "u", "b")))})
	mustRead(t, "UPDATE t SET a = a + 1, b = NULL WHERE NOT (a = 1 OR FALSE)", api.Stmt{Kind: api.StmtUpdate, Table: "t",
		Sets:  []api.Set{{Name: "a", Expr: over(api.ExprArith, api.OpAdd, 19, column(17, "a"), number(21, 1)), At: 13}, {Name: "b", Expr: null(28), At: 24}},
		Where: one(over(api.ExprNot, 0, 39, over(api.ExprOr, 0, 50, over(api.ExprCompare, api.CmpEq, 46, column(44, "a"), number(48, 1)), truth(53, 0))))})
	mustRead(t, "DELETE FROM t", api.Stmt{Kind: api.StmtDelete, Table: "t"})
	mustRefuse(t, "", api.ErrSyntax, 0)
	mustRefuse(t, "SELECT", api.ErrSyntax, 6)
	mustRefuse(t, "SELECT a FROM t WHERE", api.ErrSyntax, 21)
	mustRefuse(t, "SELECT a FROM t LIMIT -1", api.ErrSyntax, 22)
	mustRefuse(t, "SELECT a = b = c FROM t", api.ErrSyntax, 13)
	mustRefuse(t, "INSERT INTO t VALUES (COUNT(*))", api.ErrSyntax, 22)
	mustRefuse(t, "SELECT 1,2,3,4,5,6,7,8,9 FROM t", api.ErrMany, 23)
	mustRefuse(t, "DELETE FROM t WHERE "+strings.Repeat("NOT ", 16)+"TRUE", api.ErrDeep, 0)
}

func TestP111Leaves(t *testing.T) {
	mustWhere(t, "0", number(20, 0))
	mustWhere(t, "4611686018427387904", number(20, 1<<62))
	mustWhere(t, "'it''s'", text(20, "it's"))
	mustWhere(t, "''", text(20, ""))
	mustWhere(t, "TRUE", truth(20, 1))
	mustWhere(t, "FALSE", truth(20, 0))
	mustWhere(t, "NULL", null(20))
	mustWhere(t, ":p1", param(20, "p1"))
	mustWhere(t, "a", column(20, "a"))
	mustWhere(t, "t . a", columnOf(20, "t", "a"))
	mustWhere(t, "((a))", column(22, "a"))
	mustWhere(t, "- 1", over(api.ExprNeg, 0, 20, number(22, 1)))
	mustWhere(t, "- -a", over(api.ExprNeg, 0, 20, over(api.ExprNeg, 0, 22, column(23, "a"))))
}

func TestP111Operations(t *testing.T) {
	for sign, op := range map[string]int{"+": api.OpAdd, "-": api.OpSub, "*": api.OpMul, "/": api.OpDiv, "%": api.OpMod} {
		mustWhere(t, "a "+sign+" b", over(api.ExprArith, op, 22, column(20, "a"), column(24, "b")))
	}
	for sign, op := range map[string]int{"=": api.CmpEq, "<>": api.CmpNe, "<": api.CmpLt, "<=": api.CmpLe, ">": api.CmpGt, ">=": api.CmpGe} {
		mustWhere(t, "a "+sign+" b", over(api.ExprCompare, op, 22, column(20, "a"), column(23+len(sign), "b")))
	}
	mustWhere(t, "a IS NULL", over(api.ExprNull, 0, 22, column(20, "a")))
	mustWhere(t, "a IS NOT NULL", over(api.ExprNull, 1, 22, column(20, "a")))
	mustWhere(t, "NOT a", over(api.ExprNot, 0, 20, column(24, "a")))
	mustWhere(t, "NOT NOT a", over(api.ExprNot, 0, 20, over(api.ExprNot, 0, 24, column(28, "a"))))
	mustWhere(t, "a AND b AND c", over(api.ExprAnd, 0, 22, column(20, "a"), column(26, "b"), column(32, "c")))
	mustWhere(t, "a OR b OR c", over(api.ExprOr, 0, 22, column(20, "a"), column(25, "b"), column(30, "c")))
}

// Which parts go together, where no brackets say it, and where they do.
func TestP111WhatGoesTogether(t *testing.T) {
	mustWhere(t, "a-b-c", over(api.ExprArith, api.OpSub, 23, over(api.ExprArith, api.OpSub, 21, column(20, "a"), column(22, "b")), column(24, "c")))
	mustWhere(t, "a-(b-c)", over(api.ExprArith, api.OpSub, 21, column(20, "a"), over(api.ExprArith, api.OpSub, 24, column(23, "b"), column(25, "c"))))
	mustWhere(t, "a/b*c", over(api.ExprArith, api.OpMul, 23, over(api.ExprArith, api.OpDiv, 21, column(20, "a"), column(22, "b")), column(24, "c")))
	mustWhere(t, "a+b*c", over(api.ExprArith, api.OpAdd, 21, column(20, "a"), over(api.ExprArith, api.OpMul, 23, column(22, "b"), column(24, "c"))))
	mustWhere(t, "a%b+c", over(api.ExprArith, api.OpAdd, 23, over(api.ExprArith, api.OpMod, 21, column(20, "a"), column(22, "b")), column(24, "c")))
	mustWhere(t, "-a*b", over(api.ExprArith, api.OpMul, 22, over(api.ExprNeg, 0, 20, column(21, "a")), column(23, "b")))
	mustWhere(t, "a* -b", over(api.ExprArith, api.OpMul, 21, column(20, "a"), over(api.ExprNeg, 0, 23, column(24, "b"))))
	mustWhere(t, "a+b<c", over(api.ExprCompare, api.CmpLt, 23, over(api.ExprArith, api.OpAdd, 21, column(20, "a"), column(22, "b")), column(24, "c")))
	mustWhere(t, "(a=b)=c", over(api.ExprCompare, api.CmpEq, 25, over(api.ExprCompare, api.CmpEq, 22, column(21, "a"), column(23, "b")), column(26, "c")))
	mustWhere(t, "NOT a=b", over(api.ExprNot, 0, 20, over(api.ExprCompare, api.CmpEq, 25, column(24, "a"), column(26, "b"))))
	mustWhere(t, "NOT a IS NULL", over(api.ExprNot, 0, 20, over(api.ExprNull, 0, 26, column(24, "a"))))
	mustWhere(t, "NOT a AND b", over(api.ExprAnd, 0, 26, over(api.ExprNot, 0, 20, column(24, "a")), column(30, "b")))
	mustWhere(t, "a OR b AND c OR d", over(api.ExprOr, 0, 22, column(20, "a"), over(api.ExprAnd, 0, 27, column(25, "b"), column(31, "c")), column(36, "d")))
	mustWhere(t, "(a OR b) AND c", over(api.ExprAnd, 0, 29, over(api.ExprOr, 0, 23, column(21, "a"), column(26, "b")), column(33, "c")))
	mustWhere(t, "a AND (b AND c)", over(api.ExprAnd, 0, 22, column(20, "a"), over(api.ExprAnd, 0, 29, column(27, "b"), column(33, "c"))))
	mustWhere(t, "(a AND b) AND c", over(api.ExprAnd, 0, 30, over(api.ExprAnd, 0, 23, column(21, "a"), column(27, "b")), column(34, "c")))
	mustWhere(t, "-(NOT a)", over(api.ExprNeg, 0, 20, over(api.ExprNot, 0, 22, column(26, "a"))))
}

func TestP111Items(t *testing.T) {
	mustRead(t, "SELECT COUNT ( * ),SUM(a+1),MIN(a),MAX(NOT a),b=1 FROM t", api.Stmt{Kind: api.StmtSelect, Table: "t", Items: []api.Expr{
		over(api.ExprCount, 0, 7), over(api.ExprSum, 0, 19, over(api.ExprArith, api.OpAdd, 24, column(23, "a"), number(25, 1))),
		over(api.ExprMin, 0, 28, column(32, "a")), over(api.ExprMax, 0, 35, over(api.ExprNot, 0, 39, column(43, "a"))),
		over(api.ExprCompare, api.CmpEq, 47, column(46, "b"), number(48, 1))}})
	mustRead(t, "SELECT*FROM t", api.Stmt{Kind: api.StmtSelect, Table: "t", Star: true})
	mustRefuse(t, "SELECT *, a FROM t", api.ErrSyntax, 8)
	mustRefuse(t, "SELECT a, * FROM t", api.ErrSyntax, 10)
	mustRefuse(t, "SELECT t.* FROM t", api.ErrSyntax, 9)
	mustRefuse(t, "SELECT COUNT(a) FROM t", api.ErrSyntax, 13)
	mustRefuse(t, "SELECT COUNT(*) + 1 FROM t", api.ErrSyntax, 16)
	mustRefuse(t, "SELECT 1 + COUNT(*) FROM t", api.ErrSyntax, 11)
	mustRefuse(t, "SELECT (SUM(a)) FROM t", api.ErrSyntax, 8)
	mustRefuse(t, "SELECT SUM(MIN(a)) FROM t", api.ErrSyntax, 11)
	mustRefuse(t, "SELECT SUM(*) FROM t", api.ErrSyntax, 11)
	mustRefuse(t, "SELECT SUM() FROM t", api.ErrSyntax, 11)
	mustRefuse(t, "SELECT MAX(a, b) FROM t", api.ErrSyntax, 12)
	mustRefuse(t, "UPDATE t SET a = MAX(a)", api.ErrSyntax, 17)
	mustRefuse(t, "SELECT * FROM t WHERE SUM(a) = 1", api.ErrSyntax, 22)
	mustRefuse(t, "SELECT * FROM t JOIN u ON COUNT(*)", api.ErrSyntax, 26)
}

// All clauses of a select, and none but in their order.
func TestP111Clauses(t *testing.T) {
	all := api.Stmt{Kind: api.StmtSelect, Table: "t", Items: one(column(7, "a")), Join: "u", JoinAt: 21, On: one(truth(26, 1)), Where: one(column(37, "b")),
		Groups: []api.Expr{column(48, "c"), columnOf(51, "t", "d")}, Sorts: []api.Sort{{Item: 1, At: 64}, {Desc: true, At: 67}}, Limit: []int{0}}
	mustRead(t, "SELECT a FROM t JOIN u ON TRUE WHERE b GROUP BY c, t.d ORDER BY 1, 0 DESC LIMIT 0", all)
	mustRead(t, "SELECT a FROM t LIMIT 4611686018427387904", api.Stmt{Kind: api.StmtSelect, Table: "t", Items: one(column(7, "a")), Limit: []int{1 << 62}})
	mustRead(t, "UPDATE t SET a = 1", api.Stmt{Kind: api.StmtUpdate, Table: "t", Sets: []api.Set{{Name: "a", Expr: number(17, 1), At: 13}}})
	for s, at := range map[string]int{
		"SELECT a FROM t WHERE b JOIN u ON c":   24,
		"SELECT a FROM t GROUP BY a WHERE b":    27,
		"SELECT a FROM t ORDER BY 1 GROUP BY a": 27,
		"SELECT a FROM t LIMIT 1 ORDER BY 1":    24,
		"SELECT a FROM t WHERE b WHERE b":       24,
		"SELECT a FROM t JOIN u":                22,
		"SELECT a FROM t ON b":                  16,
		"SELECT a FROM t, u":                    15,
		"SELECT a FROM t u":                     16,
		"SELECT a b FROM t":                     9,
		"SELECT a, FROM t":                      10,
		"SELECT a WHERE b":                      9,
		"SELECT a FROM t GROUP a":               22,
		"SELECT a FROM t GROUP BY 1":            25,
		"SELECT a FROM t GROUP BY a + 1":        27,
		"SELECT a FROM t GROUP BY (a)":          25,
		"SELECT a FROM t ORDER BY a":            25,
		"SELECT a FROM t ORDER BY 1 DESC DESC":  32,
		"SELECT a FROM t ORDER BY DESC":         25,
		"SELECT a FROM t LIMIT":                 21,
		"SELECT a FROM t LIMIT :p":              22,
		"SELECT a FROM t LIMIT 1, 2":            23,
		"SELECT a FROM :t":                      14,
		"SELECT a FROM 't'":                     14,
	} {
		mustRefuse(t, s, api.ErrSyntax, at)
	}
}

func TestP111OtherStatements(t *testing.T) {
	for s, at := range map[string]int{
		"t":                              0,
		"FROM t":                         0,
		"  ; ":                           2,
		"DELETE FROM t;;":                14,
		"DELETE FROM t; DELETE FROM t":   15,
		"DELETE t":                       7,
		"DELETE FROM t LIMIT 1":          14,
		"DELETE FROM t WHERE":            19,
		"INSERT t":                       7,
		"INSERT INTO t (a) VALUES (1)":   14,
		"INSERT INTO t VALUES 1":         21,
		"INSERT INTO t VALUES ()":        22,
		"INSERT INTO t VALUES (1":        23,
		"INSERT INTO t VALUES (1,)":      24,
		"INSERT INTO t VALUES (1), (2)":  24,
		"INSERT INTO t VALUES (1) WHERE": 25,
		"INSERT INTO t SELECT a FROM t":  14,
		"UPDATE t":                       8,
		"UPDATE t SET":                   12,
		"UPDATE t SET t.a = 1":           14,
		"UPDATE t SET a <= 1":            15,
		"UPDATE t SET a = 1, WHERE b":    20,
		"UPDATE t SET a = 1 b = 2":       19,
		"UPDATE t SET a = b = c, d":      25,
	} {
		mustRefuse(t, s, api.ErrSyntax, at)
	}
	mustRead(t, "UPDATE t SET a = b = c", api.Stmt{Kind: api.StmtUpdate, Table: "t",
		Sets: []api.Set{{Name: "a", Expr: over(api.ExprCompare, api.CmpEq, 19, column(17, "b"), column(21, "c")), At: 13}}})
}

func TestP111WrongExpressions(t *testing.T) {
	for s, at := range map[string]int{
		"":                  20,
		"()":                21,
		"(a":                22,
		"a)":                21,
		"a b":               22,
		"a 1":               22,
		"a (b)":             22,
		"a.":                22,
		"a.1":               22,
		"a.b.c":             23,
		":p.a":              22,
		"1.a":               21,
		"+ a":               20,
		"a + * b":           24,
		"a +":               23,
		"a =":               23,
		"a < > b":           24,
		"a = NOT b":         24,
		"a < b < c":         26,
		"a = b IS NULL":     26,
		"a IS NULL IS NULL": 30,
		"a IS NULL = b":     30,
		"a IS":              24,
		"a IS NOT":          28,
		"a IS NOT NOT NULL": 29,
		"a IS TRUE":         25,
		"a IS 'NULL'":       25,
		"a NOT":             22,
		"a NOT NULL":        22,
		"NOT":               23,
		"- NOT a":           22,
		"1 + NOT a":         24,
		"a AND":             25,
		"a AND AND b":       26,
		"a OR OR b":         25,
		"AND a":             20,
		"a AND b OR":        30,
		"a, b":              21,
		"SELECT":            20,
		"a 'AND' b":         22,
		"a ',' b":           22,
		"'NOT' a":           26,
	} {
		s, at := "DELETE FROM t WHERE "+s, at
		if strings.HasSuffix(s, "WHERE ") {
			at = len(s)
		}
		mustRefuse(t, s, api.ErrSyntax, at)
	}
}

// What is no token is told first, wherever it stands.
func TestP111LexFirst(t *testing.T) {
	mustRefuse(t, "SELECT 07 FROM t", api.ErrLexNumber, 7)
	mustRefuse(t, "FROM FROM !", api.ErrLexByte, 10)
	mustRefuse(t, "a b 'c", api.ErrLexText, 4)
	mustRefuse(t, "( Select", api.ErrLexName, 2)
	mustRefuse(t, "SELECT 1,2,3,4,5,6,7,8,9 FROM t _", api.ErrLexName, 32)
	mustRefuse(t, "!"+strings.Repeat(" ", 1000), api.ErrLong, 0)
	mustRead(t, "DELETE FROM t"+strings.Repeat(" ", 987), api.Stmt{Kind: api.StmtDelete, Table: "t"})
	mustRefuse(t, "DELETE FROM t"+strings.Repeat(" ", 988), api.ErrLong, 0)
}

// manyOf is a source with so many of some part, and the place of the last one.
func manyOf(head, part, between, tail string, n int) (string, int) {
	s := head + strings.Repeat(part+between, n-1)
	return s + part + tail, len(s)
}

// Of each row so many parts may be, and no more.
func TestP111Many(t *testing.T) {
	for _, x := range []struct {
		head, part, between, tail string
		most                      int
	}{
		{"SELECT ", "a", ", ", " FROM t", 8},
		{"SELECT ", "COUNT(*)", ",", " FROM t", 8},
		{"SELECT ", "- a + b", ",", " FROM t", 8},
		{"SELECT * FROM t GROUP BY ", "t.a", ",", " LIMIT 1", 8},
		{"SELECT * FROM t ORDER BY ", "1 DESC", ",", ";", 8},
		{"INSERT INTO t VALUES (", "(1)", ",", ")", 16},
		{"UPDATE t SET ", "a = 1 AND b", " , ", " WHERE a", 16},
		{"DELETE FROM t WHERE ", "a = b", " AND ", "", 8},
		{"DELETE FROM t WHERE ", "(a + b) * c", " OR ", "", 8},
		{"DELETE FROM t WHERE ", "a AND b", " OR ", "", 8},
		{"SELECT SUM(", "NOT a", " AND ", ") FROM t", 8},
		{"SELECT * FROM t JOIN u ON ", "a", " OR ", "", 8},
		{"INSERT INTO t VALUES (-(", "a", " OR ", "))", 8},
		{"UPDATE t SET a = ", "b", " AND ", ", c = 1", 8},
	} {
		s, _ := manyOf(x.head, x.part, x.between, x.tail, x.most)
		if got, f := syntax.Parse(s); f != (api.Fault{}) || !syntax.Right(got) {
			t.Errorf("Parse(%q) = %+v, %v", s, got, f)
		}
		s, at := manyOf(x.head, x.part, x.between, x.tail, x.most+1)
		mustRefuse(t, s, api.ErrMany, at)
		s, _ = manyOf(x.head, x.part, x.between, x.tail, x.most+3)
		mustRefuse(t, s, api.ErrMany, at)
	}
}

// The first part that is one too many is told, in whatever row it is.
func TestP111TheFirstOfMany(t *testing.T) {
	nine, last := manyOf("", "a", " AND ", "", 9)
	mustRefuse(t, "SELECT 1,2,3,4,5,6,7,8,"+nine+" FROM t", api.ErrMany, 23)
	mustRefuse(t, "SELECT 1,2,3,4,5,6,7,"+nine+",9 FROM t", api.ErrMany, 21+last)
	mustRefuse(t, "SELECT 1,2,3,4,5,6,7,8,9 FROM t WHERE "+nine, api.ErrMany, 23)
	mustRefuse(t, "SELECT 1 FROM t WHERE "+nine+" ORDER BY 1,2,3,4,5,6,7,8,9", api.ErrMany, 22+last)
	mustRefuse(t, "DELETE FROM t WHERE 1 OR 2 OR 3 OR 4 OR 5 OR 6 OR 7 OR ("+nine+") OR 9", api.ErrMany, 56+last)
	mustRefuse(t, "DELETE FROM t WHERE 1 OR 2 OR 3 OR 4 OR 5 OR 6 OR 7 OR 8 OR ("+nine+")", api.ErrMany, 60)
	// A row in brackets is one Kid of the row around it, and brackets begin it.
	mustRefuse(t, "DELETE FROM t WHERE "+strings.Repeat("a AND ", 8)+"((b) AND c)", api.ErrMany, 68)
	if _, f := syntax.Parse("DELETE FROM t WHERE " + strings.Repeat("a AND ", 7) + "(" + strings.Repeat("a AND ", 7) + "b)"); f != (api.Fault{}) {
		t.Error(f)
	}
}

// nested are sources of expressions of a depth.
func nested(depth int) []string {
	n := depth - 1
	return []string{
		"DELETE FROM t WHERE " + strings.Repeat("NOT ", n) + "a",
		"DELETE FROM t WHERE " + strings.Repeat("- ", n) + "a",
		"DELETE FROM t WHERE a" + strings.Repeat(" + 1", n),
		"DELETE FROM t WHERE " + strings.Repeat("1 * (", n) + "a" + strings.Repeat(")", n),
		"DELETE FROM t WHERE " + strings.Repeat("(", n) + "a" + strings.Repeat(" = 1)", n),
		"DELETE FROM t WHERE " + strings.Repeat("(", n) + "a" + strings.Repeat(" IS NULL)", n),
		"DELETE FROM t WHERE " + strings.Repeat("a AND (", n) + "a" + strings.Repeat(")", n),
		"DELETE FROM t WHERE " + strings.Repeat("a OR b OR (", n) + "a" + strings.Repeat(")", n),
		"SELECT SUM(" + strings.Repeat("- ", n-1) + "a) FROM t",
		"SELECT 1, 2, MAX(a" + strings.Repeat(" - 1", n-1) + "), 3 FROM t",
		"SELECT * FROM t JOIN u ON " + strings.Repeat("NOT ", n) + "a WHERE b",
		"SELECT * FROM t WHERE a" + strings.Repeat(" % 1", n) + " LIMIT 1",
		"UPDATE t SET a = 1, b = " + strings.Repeat("- ", n) + "a, c = 1",
		"INSERT INTO t VALUES (1, " + strings.Repeat("- ", n) + "a)",
	}
}

func TestP111Deep(t *testing.T) {
	for i, s := range nested(16) {
		if got, f := syntax.Parse(s); f != (api.Fault{}) || !syntax.Right(got) {
			t.Errorf("Parse(%q) = %+v, %v", s, got, f)
		}
		mustRefuse(t, nested(17)[i], api.ErrDeep, 0)
		mustRefuse(t, nested(40)[i], api.ErrDeep, 0)
		mustRefuse(t, " -- x\n "+nested(17)[i], api.ErrDeep, 7)
	}
	// Brackets are no depth.
	mustWhere(t, strings.Repeat("(", 489)+"a"+strings.Repeat(")", 489), column(509, "a"))
}

// ErrSyntax stands ahead of ErrMany, and that ahead of ErrDeep, wherever they are.
func TestP111WhichIsFirst(t *testing.T) {
	deep := strings.Repeat("- ", 16) + "1"
	mustRefuse(t, "SELECT 1,2,3,4,5,6,7,8,9 FROM t WHERE", api.ErrSyntax, 37)
	mustRefuse(t, "SELECT "+deep+" FROM t u", api.ErrSyntax, 7+len(deep)+8)
	mustRefuse(t, "SELECT "+deep+",2,3,4,5,6,7,8,9 FROM t", api.ErrMany, 7+len(deep)+15)
	mustRefuse(t, "SELECT 1,2,3,4,5,6,7,8,9,"+deep+" FROM t;;", api.ErrSyntax, 25+len(deep)+8)
	mustRefuse(t, "SELECT 1,2,3,4,5,6,7,8,"+deep+" FROM t", api.ErrMany, 23)
}

// rightOnes are right statements, of all kinds, at the edges too.
func rightOnes() []api.Stmt {
	kids := func(n int) (l []api.Expr) {
		for range n {
			l = append(l, column(0, "a"))
		}
		return l
	}
	long := api.Stmt{Kind: api.StmtInsert, Table: "abcdefghijklmnop"}
	for range 16 {
		long.Items = append(long.Items, over(api.ExprAnd, 0, 0, kids(8)...), text(0, strings.Repeat("\x00", 64)))
	}
	long.Items = long.Items[:16]
	full := api.Stmt{Kind: api.StmtSelect, Table: "t", Items: kids(8), Join: "u", On: kids(1), Where: kids(1), Groups: kids(8), Limit: []int{1 << 62}}
	for range 8 {
		full.Sorts = append(full.Sorts, api.Sort{Item: 1 << 62, Desc: true})
	}
	sets := api.Stmt{Kind: api.StmtUpdate, Table: "t"}
	for range 16 {
		sets.Sets = append(sets.Sets, api.Set{Name: "a", Expr: over(api.ExprOr, 0, 0, kids(8)...)})
	}
	return []api.Stmt{long, full, sets,
		{Kind: api.StmtSelect, Table: "t", Star: true, At: -5, JoinAt: 1 << 62},
		{Kind: api.StmtSelect, Table: "t", Star: true, Groups: one(columnOf(-1, "u", "b")), Sorts: []api.Sort{{At: -1}}, Limit: []int{0}},
		{Kind: api.StmtSelect, Table: "t", Items: []api.Expr{over(api.ExprCount, 0, 0), over(api.ExprSum, 0, 0, kids(1)...), over(api.ExprMin, 0, 0, null(0)), over(api.ExprMax, 0, 0, text(9, ""))}},
		{Kind: api.StmtDelete, Table: "t", JoinAt: 3},
		{Kind: api.StmtDelete, Table: "t", Where: one(over(api.ExprNeg, 0, 0, over(api.ExprNot, 0, 0, over(api.ExprOr, 0, 0, kids(2)...))))},
		{Kind: api.StmtDelete, Table: "t", Where: one(over(api.ExprCompare, 6, 0, over(api.ExprArith, 5, 0, param(0, "p"), number(0, 1<<62)), over(api.ExprNull, 1, 0, truth(0, 1))))},
		{Kind: api.StmtUpdate, Table: "t", Sets: []api.Set{{Name: "a", Expr: over(api.ExprCompare, 1, 0, over(api.ExprArith, 1, 0, kids(2)...), over(api.ExprNull, 0, 0, truth(0, 0)))}}, Where: kids(1)},
		{Kind: api.StmtInsert, Table: "t", Items: one(number(0, 0)), Sets: []api.Set{}, Limit: []int{}},
	}
}

func TestP112Right(t *testing.T) {
	for _, s := range rightOnes() {
		if !syntax.Right(s) {
			t.Errorf("%+v is right", s)
		}
	}
	for _, s := range []api.Stmt{
		{},
		{Table: "t"},
		{Kind: 5, Table: "t", Star: true},
		{Kind: -1, Table: "t"},
		{Kind: api.StmtDelete},
		{Kind: api.StmtDelete, Table: "T"},
		{Kind: api.StmtDelete, Table: "abcdefghijklmnopq"},
		{Kind: api.StmtDelete, Table: "t", Star: true},
		{Kind: api.StmtDelete, Table: "t", Join: "u"},
		{Kind: api.StmtDelete, Table: "t", Limit: []int{1}},
		{Kind: api.StmtDelete, Table: "t", Where: []api.Expr{null(0), null(0)}},
		{Kind: api.StmtDelete, Table: "t", Where: one(api.Expr{})},
		{Kind: api.StmtUpdate, Table: "t"},
		{Kind: api.StmtUpdate, Table: "t", Sets: []api.Set{{Expr: null(0)}}},
		{Kind: api.StmtUpdate, Table: "t", Sets: []api.Set{{Name: "a"}}},
		{Kind: api.StmtUpdate, Table: "t", Sets: []api.Set{{Name: "a", Expr: over(api.ExprCount, 0, 0)}}},
		{Kind: api.StmtUpdate, Table: "t", Sets: make([]api.Set, 17)},
		{Kind: api.StmtInsert, Table: "t"},
		{Kind: api.StmtInsert, Table: "t", Items: one(over(api.ExprCount, 0, 0))},
		{Kind: api.StmtInsert, Table: "t", Items: one(null(0)), Where: one(null(0))},
		{Kind: api.StmtSelect, Table: "t"},
		{Kind: api.StmtSelect, Table: "t", Star: true, Items: one(null(0))},
		{Kind: api.StmtSelect, Table: "t", Star: true, Join: "u"},
		{Kind: api.StmtSelect, Table: "t", Star: true, On: one(null(0))},
		{Kind: api.StmtSelect, Table: "t", Star: true, Join: "u", On: []api.Expr{null(0), null(0)}},
		{Kind: api.StmtSelect, Table: "t", Star: true, Join: "U", On: one(null(0))},
		{Kind: api.StmtSelect, Table: "t", Star: true, Groups: one(null(0))},
		{Kind: api.StmtSelect, Table: "t", Star: true, Sorts: []api.Sort{{Item: -1}}},
		{Kind: api.StmtSelect, Table: "t", Star: true, Sorts: []api.Sort{{Item: 1<<62 + 1}}},
		{Kind: api.StmtSelect, Table: "t", Star: true, Sorts: make([]api.Sort, 9)},
		{Kind: api.StmtSelect, Table: "t", Star: true, Limit: []int{1, 1}},
		{Kind: api.StmtSelect, Table: "t", Star: true, Limit: []int{-1}},
		{Kind: api.StmtSelect, Table: "t", Star: true, Limit: []int{1<<62 + 1}},
		{Kind: api.StmtSelect, Table: "t", Star: true, Sets: []api.Set{{Name: "a", Expr: null(0)}}},
	} {
		if syntax.Right(s) {
			t.Errorf("%+v is not right", s)
		}
	}
}

func TestP112RightExpressions(t *testing.T) {
	a := column(0, "a")
	count, sum := over(api.ExprCount, 0, 0), over(api.ExprSum, 0, 0, a)
	for _, e := range []api.Expr{
		{}, {Kind: 15}, {Kind: 15, Kids: one(a)}, {Kind: -1},
		number(0, -1), number(0, 1<<62+1), truth(0, 2), truth(0, -1), text(0, strings.Repeat("a", 65)),
		{Kind: api.ExprValue, Value: api.Value{Kind: 4}}, {Kind: api.ExprValue, Value: api.Value{Int: 1}}, {Kind: api.ExprValue, Value: api.Value{Kind: api.Text, Int: 1}},
		{Kind: api.ExprValue, Name: "a"}, {Kind: api.ExprValue, Table: "t"}, {Kind: api.ExprValue, Op: 1}, {Kind: api.ExprValue, Kids: one(a)},
		param(0, ""), param(0, "P"), {Kind: api.ExprParam, Table: "t", Name: "p"}, {Kind: api.ExprParam, Name: "p", Value: api.Value{Kind: api.Int}}, {Kind: api.ExprParam, Name: "p", Op: 1},
		column(0, ""), column(0, "a.b"), columnOf(0, "T", "a"), columnOf(0, "t", ""), {Kind: api.ExprColumn, Name: "a", Value: api.Value{Int: 1}}, {Kind: api.ExprColumn, Name: "a", Kids: one(a)},
		over(api.ExprNeg, 0, 0), over(api.ExprNeg, 1, 0, a), over(api.ExprNeg, 0, 0, a, a), over(api.ExprNeg, 0, 0, count), over(api.ExprNeg, 0, 0, number(0, -1)),
		over(api.ExprArith, 0, 0, a, a), over(api.ExprArith, 6, 0, a, a), over(api.ExprArith, 1, 0, a), over(api.ExprArith, 1, 0, a, a, a), over(api.ExprArith, 1, 0, a, sum),
		over(api.ExprCompare, 0, 0, a, a), over(api.ExprCompare, 7, 0, a, a), over(api.ExprCompare, 1, 0, a), over(api.ExprCompare, 1, 0, sum, a),
		over(api.ExprNull, -1, 0, a), over(api.ExprNull, 2, 0, a), over(api.ExprNull, 1, 0), over(api.ExprNull, 1, 0, a, a),
		over(api.ExprNot, 1, 0, a), over(api.ExprNot, 0, 0), over(api.ExprNot, 0, 0, a, a),
		over(api.ExprAnd, 0, 0, a), over(api.ExprAnd, 1, 0, a, a), over(api.ExprAnd, 0, 0, a, a, a, a, a, a, a, a, a), over(api.ExprAnd, 0, 0, a, count),
		over(api.ExprOr, 0, 0, a), over(api.ExprOr, 1, 0, a, a), over(api.ExprOr, 0, 0, a, a, a, a, a, a, a, a, a), over(api.ExprOr, 0, 0, a, api.Expr{}),
		over(api.ExprCount, 1, 0), over(api.ExprCount, 0, 0, a), {Kind: api.ExprCount, Name: "a"}, over(api.ExprSum, 0, 0), over(api.ExprSum, 1, 0, a), over(api.ExprSum, 0, 0, a, a),
		over(api.ExprMin, 0, 0, count), over(api.ExprMax, 0, 0, sum), {Kind: api.ExprMax, Table: "t", Kids: one(a)}, {Kind: api.ExprNot, Name: "a", Kids: one(a)}, {Kind: api.ExprNot, Value: api.Value{Kind: api.Int}, Kids: one(a)},
	} {
		for _, s := range []api.Stmt{
			{Kind: api.StmtSelect, Table: "t", Items: []api.Expr{a, e}},
			{Kind: api.StmtSelect, Table: "t", Star: true, Where: one(e)},
			{Kind: api.StmtSelect, Table: "t", Star: true, Groups: one(e)},
			{Kind: api.StmtSelect, Table: "t", Star: true, Join: "u", On: one(e)},
			{Kind: api.StmtInsert, Table: "t", Items: one(e)},
			{Kind: api.StmtUpdate, Table: "t", Sets: []api.Set{{Name: "a", Expr: e}}},
			{Kind: api.StmtUpdate, Table: "t", Sets: []api.Set{{Name: "a", Expr: a}}, Where: one(over(api.ExprNot, 0, 0, e))},
		} {
			if syntax.Right(s) {
				t.Errorf("%+v is not right", s)
			}
		}
	}
}

// What is over many rows is an item of a select, and nothing else.
func TestP112RightOverRows(t *testing.T) {
	a := column(0, "a")
	for _, e := range []api.Expr{over(api.ExprCount, 0, 0), over(api.ExprSum, 0, 0, a), over(api.ExprMin, 0, 0, a), over(api.ExprMax, 0, 0, a)} {
		if s := (api.Stmt{Kind: api.StmtSelect, Table: "t", Items: []api.Expr{a, e}}); !syntax.Right(s) {
			t.Errorf("%+v is right", s)
		}
		for _, s := range []api.Stmt{
			{Kind: api.StmtSelect, Table: "t", Items: one(over(api.ExprNeg, 0, 0, e))},
			{Kind: api.StmtSelect, Table: "t", Items: one(over(api.ExprMin, 0, 0, e))},
			{Kind: api.StmtSelect, Table: "t", Items: one(over(api.ExprAnd, 0, 0, a, e))},
			{Kind: api.StmtSelect, Table: "t", Star: true, Where: one(e)},
			{Kind: api.StmtSelect, Table: "t", Star: true, Groups: one(e)},
			{Kind: api.StmtSelect, Table: "t", Star: true, Join: "u", On: one(e)},
			{Kind: api.StmtInsert, Table: "t", Items: one(e)},
			{Kind: api.StmtUpdate, Table: "t", Sets: []api.Set{{Name: "a", Expr: e}}},
			{Kind: api.StmtDelete, Table: "t", Where: one(e)},
		} {
			if syntax.Right(s) {
				t.Errorf("%+v is not right", s)
			}
		}
	}
}

// The depth counts wherever an expression stands; a statement that goes down and down is no trouble.
func TestP112RightDepth(t *testing.T) {
	for depth, want := range map[int]bool{1: true, 15: true, 16: true, 17: false, 18: false, 1 << 16: false} {
		e := column(0, "a")
		for range depth - 1 {
			e = over(api.ExprNot, 0, 0, e)
		}
		for i, s := range []api.Stmt{
			{Kind: api.StmtDelete, Table: "t", Where: one(e)},
			{Kind: api.StmtInsert, Table: "t", Items: []api.Expr{null(0), e}},
			{Kind: api.StmtUpdate, Table: "t", Sets: []api.Set{{Name: "a", Expr: e}}},
			{Kind: api.StmtSelect, Table: "t", Star: true, Join: "u", On: one(e)},
			{Kind: api.StmtSelect, Table: "t", Items: one(e)},
		} {
			if syntax.Right(s) != want {
				t.Errorf("statement %d, of a depth of %d: Right is %v", i, depth, !want)
			}
			if other := s; !syntax.Same(s, other) {
				t.Errorf("statement %d, of a depth of %d, is not the same as itself", i, depth)
			}
		}
		sum := api.Stmt{Kind: api.StmtSelect, Table: "t", Items: one(over(api.ExprSum, 0, 0, e))}
		if syntax.Right(sum) != (depth < 16) {
			t.Errorf("a sum of a depth of %d and one: Right is %v", depth, depth >= 16)
		}
	}
}

func TestP112Same(t *testing.T) {
	a, _ := syntax.Parse("SELECT a - b - c FROM t")
	for s, want := range map[string]bool{
		"SELECT (a - b) -\nc FROM t -- same": true,
		"SELECT a - (b - c) FROM t":          false,
		"SELECT a - b + c FROM t":            false,
		"SELECT a - b - d FROM t":            false,
		"SELECT a - b - t.c FROM t":          false,
		"SELECT a - b - :c FROM t":           false,
		"SELECT a - b - c FROM u":            false,
		"SELECT a - b - c, d FROM t":         false,
		"SELECT a - b - c FROM t LIMIT 1":    false,
		"DELETE FROM t":                      false,
	} {
		b, f := syntax.Parse(s)
		if f != (api.Fault{}) || syntax.Same(a, b) != want || syntax.Same(b, a) != want {
			t.Errorf("%q: %v; Same is %v", s, f, !want)
		}
	}
	// Of any, right or not.
	if !syntax.Same(api.Stmt{}, api.Stmt{At: 1, JoinAt: 2, Items: []api.Expr{}, Sets: []api.Set{}}) || syntax.Same(api.Stmt{}, api.Stmt{Kind: 9}) {
		t.Error("statements without parts")
	}
	wrong := api.Stmt{Kind: 9, Join: "!", Sets: []api.Set{{At: 7}}, Items: one(api.Expr{Kind: 99, Op: -1, Kids: one(api.Expr{Kids: []api.Expr{}})})}
	other := api.Stmt{Kind: 9, Join: "!", Sets: []api.Set{{}}, Items: one(api.Expr{Kind: 99, Op: -1, Kids: one(api.Expr{At: 5})}), Sorts: []api.Sort{}}
	if !syntax.Same(wrong, other) || syntax.Right(wrong) {
		t.Error("a wrong statement, and the same again")
	}
}

// What stands between tokens, and a ; at the end, change places alone.
func TestP113BlanksAndRemarks(t *testing.T) {
	for _, l := range [][]string{
		{"SELECT a, SUM(- b) FROM t WHERE a <= 1 ORDER BY 1 DESC LIMIT 2", "\n-- x\nSELECT a,SUM(-b)FROM t\tWHERE(a)<=1--\nORDER\nBY 1 DESC LIMIT 2 ; -- end"},
		{"INSERT INTO t VALUES (- - 1, 'x', t.a)", "INSERT INTO t VALUES(-\n-(1),'x',t . a);"},
		{"UPDATE t SET a = 1, b = NOT c", "  UPDATE--\nt--'\nSET\ta=1,b=NOT--!\nc;\n"},
		{"DELETE FROM t WHERE a IS NOT NULL", "DELETE FROM t WHERE a -- IS\nIS -- NULL\nNOT -- NULL\nNULL"},
	} {
		a, f := syntax.Parse(l[0])
		b, g := syntax.Parse(l[1])
		if f != (api.Fault{}) || g != (api.Fault{}) || !syntax.Same(a, b) || reflect.DeepEqual(a, b) {
			t.Errorf("%q: %+v, %v; %q: %+v, %v", l[0], a, f, l[1], b, g)
		}
	}
}
