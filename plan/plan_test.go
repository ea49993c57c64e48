package plan_test

import (
	"strings"
	"testing"

	"unison/api"
	"unison/check"
	"unison/plan"
	"unison/syntax"
	"unison/value"
)

// defined are the chapter's tables t and u; w, which has a key of two columns, the last one first, and an index of each kind; and b, a single truth.
func defined() api.Catalog {
	return api.Catalog{Tables: []api.Table{
		{Name: "t", Columns: columns("a! I", "b T"), Key: []int{0}, Indexes: []api.Index{{Name: "i", Columns: []int{1, 0}}}},
		{Name: "u", Columns: columns("c! I", "d! I"), Key: []int{0, 1}},
		{Name: "w", Columns: columns("k! I", "l! T", "m B", "n I", "o T", "p I"), Key: []int{1, 0}, Part: 0, Indexes: []api.Index{
			{Name: "x", Columns: []int{3}}, {Name: "y", Columns: []int{3, 5}, Unique: true}, {Name: "z", Columns: []int{4, 3, 2}}, {Name: "v", Columns: []int{5, 1}},
		}},
		{Name: "b", Columns: columns("b! B"), Key: []int{0}},
	}}
}

// columns are some, each written as its name, with ! if it is NotNull, and the first letter of its type.
func columns(l ...string) []api.Column {
	var out []api.Column
	for _, s := range l {
		name, kind, _ := strings.Cut(s, " ")
		plain := strings.TrimSuffix(name, "!")
		out = append(out, api.Column{Name: plain, Type: strings.Index(" IBT", kind), NotNull: plain != name})
	}
	return out
}

func given() []api.Param {
	return []api.Param{{Name: "n", Type: api.Int}, {Name: "q", Type: api.Bool}, {Name: "p", Type: api.Text}}
}

func typed(t *testing.T, source string) api.Typed {
	t.Helper()
	s, f := syntax.Parse(source)
	x, g := check.Check(defined(), given(), s)
	if f != (api.Fault{}) || g != (api.Fault{}) {
		t.Fatal(source, f, g)
	}
	return x
}

func made(t *testing.T, source string) api.Plan {
	t.Helper()
	x := typed(t, source)
	p, e := plan.Make(defined(), given(), x)
	if e != api.OK || !same(p.Typed, x) || !plan.Right(defined(), given(), p) {
		t.Fatalf("%s: Make = %+v, %v", source, p, e)
	}
	return p
}

// mustPlan holds the lines that are told of the plan of a source against those that are wanted.
func mustPlan(t *testing.T, source string, want ...string) {
	t.Helper()
	got, e := plan.Explain(defined(), given(), made(t, source))
	if lines := lines(want...); got != lines || e != api.OK {
		t.Errorf("%s: %q, %v; want %q", source, got, e, lines)
	}
}

func lines(l ...string) string {
	out := ""
	for _, s := range l {
		out += s + "\n"
	}
	return out
}

func TestExamples(t *testing.T) {
	mustPlan(t, "SELECT * FROM t WHERE a = 3 AND b > 'x'", "t: key a = 3")
	mustPlan(t, "SELECT * FROM t WHERE b = :p AND a > 2 AND 9 >= a", "t: index i b = :p, a > 2, a <= 9")
	mustPlan(t, "SELECT * FROM t WHERE b = 'x' OR a = 1", "t: all")
	mustPlan(t, "SELECT * FROM t WHERE a + 0 = 3", "t: all")
	mustPlan(t, "DELETE FROM t WHERE a < 5 AND a < 3", "t: key a < 5")
	mustPlan(t, "SELECT * FROM t JOIN u ON a = c WHERE d >= 1", "t: all", "u: key c = t.a, d >= 1")
}

// of is the term of a literal.
func of(literal string) api.Term {
	v, e := value.Parse(literal)
	if e != api.OK {
		panic(literal)
	}
	return api.Term{Op: api.ExprValue, Type: v.Kind, Value: v}
}

func param(place int) api.Term {
	return api.Term{Op: api.ExprParam, Num: place, Type: given()[place].Type}
}

func column(place, kind int) api.Term {
	return api.Term{Op: api.ExprColumn, Num: place, Type: kind}
}

func terms(l ...api.Term) []api.Term { return l }

func TestP151Accesses(t *testing.T) {
	for source, want := range map[string][]api.Access{
		"SELECT * FROM t":               {{Table: 0, Way: api.WayAll}},
		"DELETE FROM w":                 {{Table: 2, Way: api.WayAll}},
		"INSERT INTO t VALUES (1, 'x')": nil,
		"INSERT INTO w VALUES (1, 'x', TRUE, NULL, 'y', 1 + 1)":                  nil,
		"SELECT * FROM t WHERE a = 3":                                            {{Table: 0, Way: api.WayKey, Fixed: terms(of("3"))}},
		"SELECT a FROM t WHERE a > 3":                                            {{Table: 0, Way: api.WayKey, Low: terms(of("3")), LowOpen: true}},
		"SELECT a FROM t WHERE a >= 3":                                           {{Table: 0, Way: api.WayKey, Low: terms(of("3"))}},
		"SELECT a FROM t WHERE a < :n":                                           {{Table: 0, Way: api.WayKey, High: terms(param(0)), HighOpen: true}},
		"SELECT a FROM t WHERE a <= :n":                                          {{Table: 0, Way: api.WayKey, High: terms(param(0))}},
		"DELETE FROM t WHERE b = NULL":                                           {{Table: 0, Way: api.WayIndex, Fixed: terms(of("NULL"))}},
		"DELETE FROM w WHERE p = :n":                                             {{Table: 2, Way: api.WayIndex, Index: 3, Fixed: terms(param(0))}},
		"UPDATE w SET n = p WHERE 'x' = o AND n >= 1 AND n < 5":                  {{Table: 2, Way: api.WayIndex, Index: 2, Fixed: terms(of("'x'")), Low: terms(of("1")), High: terms(of("5")), HighOpen: true}},
		"SELECT * FROM u JOIN t ON a > d AND b = :p AND c = 1":                   {{Table: 1, Way: api.WayKey, Fixed: terms(of("1"))}, {Table: 0, Way: api.WayIndex, Fixed: terms(param(2)), Low: terms(column(1, api.Int)), LowOpen: true}},
		"SELECT 1 FROM b JOIN w ON m = b.b AND o = 'x' AND n = 2 WHERE :q < b.b": {{Table: 3, Way: api.WayKey, Low: terms(param(1)), LowOpen: true}, {Table: 2, Way: api.WayIndex, Index: 2, Fixed: terms(of("'x'"), of("2"), column(0, api.Bool))}},
	} {
		if p := made(t, source); shown(p.Access) != shown(want) {
			t.Errorf("%s: %s; want %s", source, shown(p.Access), shown(want))
		}
	}
}

func TestP151Comparisons(t *testing.T) {
	for sign, want := range map[string][2]string{"=": {"=", "="}, "<": {"<", ">"}, "<=": {"<=", ">="}, ">": {">", "<"}, ">=": {">=", "<="}} {
		mustPlan(t, "SELECT a FROM t WHERE a "+sign+" 7", "t: key a "+want[0]+" 7")
		mustPlan(t, "SELECT a FROM t WHERE 7 "+sign+" a", "t: key a "+want[1]+" 7")
		mustPlan(t, "SELECT a FROM t WHERE b "+sign+" :p", "t: index i b "+want[0]+" :p")
		mustPlan(t, "SELECT a FROM t WHERE :p "+sign+" b", "t: index i b "+want[1]+" :p")
		mustPlan(t, "SELECT a FROM b JOIN t ON a "+sign+" 7", "b: all", "t: key a "+want[0]+" 7")
		mustPlan(t, "SELECT a FROM t JOIN b ON 7 "+sign+" a", "t: key a "+want[1]+" 7", "b: all")
		mustPlan(t, "SELECT d FROM t JOIN u ON c "+sign+" a", "t: all", "u: key c "+want[0]+" t.a")
		mustPlan(t, "SELECT d FROM t JOIN u ON a "+sign+" c", "t: all", "u: key c "+want[1]+" t.a")
	}
	mustPlan(t, "SELECT a FROM t WHERE a <> 7", "t: all")
	mustPlan(t, "SELECT a FROM t WHERE 7 <> a", "t: all")
	mustPlan(t, "SELECT a FROM t WHERE a <> 7 AND a <> 8 AND b = 'x'", "t: index i b = 'x'")
}

// What is no comparison of a column and a known term binds nothing.
func TestP151WhatBindsNothing(t *testing.T) {
	for _, where := range []string{
		"TRUE", "NULL", ":q", "a IS NULL", "a IS NOT NULL", "NOT a = 1", "NOT (a = 1 AND b = 'x')", "a = 1 OR a = 2", "a = 1 OR FALSE", "(a = 1) = TRUE", "TRUE = (a = 1)", "(a = 1) IS NOT NULL", "a = a", "b = b", "1 = 1", ":n = 1", ":n = :n", "NULL = NULL", "(a = 1) = (b = 'x')", "(a = 1 AND b = 'x') = TRUE",
		"(a = 1 OR a = 2) AND (b = 'x' OR TRUE)",
	} {
		mustPlan(t, "SELECT * FROM t WHERE "+where, "t: all")
		mustPlan(t, "DELETE FROM t WHERE "+where, "t: all")
		mustPlan(t, "UPDATE t SET a = 1 WHERE "+where, "t: all")
		mustPlan(t, "SELECT d FROM t JOIN u ON "+where, "t: all", "u: all")
		mustPlan(t, "SELECT d FROM u JOIN t ON "+where, "u: all", "t: all")
		mustPlan(t, "SELECT * FROM t WHERE ("+where+") AND a > 5", "t: key a > 5")
	}
	mustPlan(t, "SELECT * FROM b WHERE b", "b: all")
	mustPlan(t, "SELECT * FROM b WHERE NOT b", "b: all")
	mustPlan(t, "SELECT * FROM b WHERE b = TRUE", "b: key b = TRUE")
	mustPlan(t, "SELECT * FROM w WHERE m = TRUE AND k = 1 AND n = k", "w: all")
	mustPlan(t, "SELECT * FROM u WHERE c = d", "u: all")
	mustPlan(t, "SELECT * FROM u WHERE d = 1", "u: all")
	mustPlan(t, "SELECT * FROM u WHERE d = c AND c = 1", "u: key c = 1")
}

// A sum or an opposite anywhere in On or Where, of whatever, lets all rows through; elsewhere it is of no weight.
func TestP151Safe(t *testing.T) {
	for _, unsafe := range []string{"a + 0 = 3", "a = -3", "1 + 1 = 2", "a = 1 + 1", "-a = -a", "NOT a * 1 = 2", "a % 2 IS NULL", "-:n IS NOT NULL", "(TRUE OR (a = 1 AND NOT (NOT (b = 'x' OR a / 1 = 1))))", "(-1 = 1) = TRUE", "TRUE = (1 = -1)"} {
		mustPlan(t, "SELECT * FROM t WHERE a = 1 AND "+unsafe, "t: all")
		mustPlan(t, "SELECT * FROM t WHERE "+unsafe+" AND a = 1", "t: all")
		mustPlan(t, "DELETE FROM t WHERE (b = 'x' AND TRUE AND "+unsafe+") AND a = 1", "t: all")
		mustPlan(t, "UPDATE t SET a = 2 WHERE a = 1 AND b = 'x' AND TRUE AND "+unsafe, "t: all")
		mustPlan(t, "SELECT d FROM t JOIN u ON "+unsafe+" WHERE a = 1 AND c = 1 AND d = 1", "t: all", "u: all")
		mustPlan(t, "SELECT d FROM t JOIN u ON a = 1 AND c = 1 AND d = 1 WHERE "+unsafe, "t: all", "u: all")
		mustPlan(t, "SELECT d FROM u JOIN t ON a = 1 AND c = 1 WHERE a = 1 AND "+unsafe, "u: all", "t: all")
	}
	mustPlan(t, "SELECT a + 1, -a FROM t WHERE a = 1", "t: key a = 1")
	mustPlan(t, "SELECT SUM(a / 0) FROM t WHERE a = 1", "t: key a = 1")
	mustPlan(t, "UPDATE t SET a = -a - 1 WHERE a = 1", "t: key a = 1")
	mustPlan(t, "SELECT b, MIN(a) FROM t WHERE a = 1 AND b = 'x' GROUP BY b ORDER BY 2 DESC LIMIT 1", "t: index i b = 'x', a = 1")
}

// The first conjunct that binds is it: Where's ahead of On's, from the left, those of ANDs in ANDs in their places.
func TestP151First(t *testing.T) {
	mustPlan(t, "SELECT * FROM t WHERE a = 1 AND a = 2", "t: key a = 1")
	mustPlan(t, "SELECT * FROM t WHERE 2 = a AND a = 1", "t: key a = 2")
	mustPlan(t, "SELECT * FROM t WHERE a > 1 AND a >= 2", "t: key a > 1")
	mustPlan(t, "SELECT * FROM t WHERE a >= 2 AND a > 1", "t: key a >= 2")
	mustPlan(t, "SELECT * FROM t WHERE a < 1 AND a <= 2 AND 3 < a AND 4 <= a", "t: key a > 3, a < 1")
	mustPlan(t, "SELECT * FROM t WHERE a <= 2 AND a < 1 AND 4 <= a AND 3 < a", "t: key a >= 4, a <= 2")
	mustPlan(t, "SELECT * FROM t WHERE a > 1 AND a < 2 AND a = 3", "t: key a = 3")
	mustPlan(t, "SELECT * FROM t WHERE (b IS NULL AND (a = 1 AND a = 2)) AND a = 3", "t: key a = 1")
	mustPlan(t, "SELECT * FROM t WHERE (b IS NULL AND TRUE) AND ((TRUE AND a > 4) AND a > 5)", "t: key a > 4")
	mustPlan(t, "SELECT * FROM t WHERE (a = 1 OR a = 2) AND a = 3 AND NOT a = 4", "t: key a = 3")
	mustPlan(t, "SELECT d FROM t JOIN u ON a = 1 AND c = 1 WHERE a = 2 AND c = 2", "t: key a = 2", "u: key c = 2")
	mustPlan(t, "SELECT d FROM t JOIN u ON a = 1 AND c = a AND d = 5 AND d = 6 WHERE c < 2", "t: key a = 1", "u: key c = t.a, d = 5")
	mustPlan(t, "SELECT d FROM t JOIN u ON c = a AND d < 6 AND d > a WHERE d < a AND d <= 4", "t: all", "u: key c = t.a, d > t.a, d < t.a")
	mustPlan(t, "SELECT d FROM t JOIN u ON c < 3 WHERE d = a AND a = c AND TRUE", "t: all", "u: key c = t.a, d = t.a")
}

// Of a join's tables the first one's columns are known for the second one, not the other way round.
func TestP151Joins(t *testing.T) {
	mustPlan(t, "SELECT d FROM t JOIN u ON a = c AND a = d", "t: all", "u: key c = t.a, d = t.a")
	mustPlan(t, "SELECT d FROM u JOIN t ON a = c AND a = d", "u: all", "t: key a = u.c")
	mustPlan(t, "SELECT d FROM u JOIN t ON d = a AND a = c", "u: all", "t: key a = u.d")
	mustPlan(t, "SELECT d FROM u JOIN t ON TRUE WHERE d > a AND c = 5 AND d = 6", "u: key c = 5, d = 6", "t: key a < u.d")
	mustPlan(t, "SELECT d FROM u JOIN t ON c = d", "u: all", "t: all")
	mustPlan(t, "SELECT 1 FROM t JOIN w ON a = k AND l = b", "t: all", "w: key l = t.b, k = t.a")
	mustPlan(t, "SELECT 1 FROM w JOIN t ON a = k AND l = b", "w: all", "t: index i b = w.l, a = w.k")
	mustPlan(t, "SELECT 1 FROM w JOIN t ON a = w.p AND b = o AND n = a", "w: all", "t: index i b = w.o, a = w.p")
	mustPlan(t, "SELECT 1 FROM t JOIN b ON t.b = 'x' AND b.b = TRUE", "t: index i b = 'x'", "b: key b = TRUE")
	mustPlan(t, "SELECT 1 FROM b JOIN t ON t.b = 'x' AND b.b = TRUE AND a = 1", "b: key b = TRUE", "t: index i b = 'x', a = 1")
}

// Columns are taken in the order of the key, or of the index, as long as they are fixed.
func TestP151Fixed(t *testing.T) {
	mustPlan(t, "SELECT * FROM u WHERE d = 2 AND c = 1", "u: key c = 1, d = 2")
	mustPlan(t, "SELECT * FROM u WHERE c > 1 AND d = 2", "u: key c > 1")
	mustPlan(t, "SELECT * FROM u WHERE c = 1 AND d <= 2 AND 0 < d", "u: key c = 1, d > 0, d <= 2")
	mustPlan(t, "SELECT * FROM w WHERE k = 1", "w: all")
	mustPlan(t, "SELECT * FROM w WHERE k = 1 AND l > 'x' AND l < 'z'", "w: key l > 'x', l < 'z'")
	mustPlan(t, "SELECT * FROM w WHERE k = 1 AND l = 'x'", "w: key l = 'x', k = 1")
	mustPlan(t, "SELECT * FROM w WHERE k < 1 AND l = 'x'", "w: key l = 'x', k < 1")
	mustPlan(t, "SELECT * FROM w WHERE m = TRUE AND n = 1 AND o = 'x'", "w: index z o = 'x', n = 1, m = TRUE")
	mustPlan(t, "SELECT * FROM w WHERE m >= :q AND n = :n AND o = :p", "w: index z o = :p, n = :n, m >= :q")
	mustPlan(t, "SELECT * FROM w WHERE m = TRUE AND o = 'x'", "w: index z o = 'x'")
	mustPlan(t, "SELECT * FROM w WHERE m = TRUE AND n > 3 AND o = 'x'", "w: index z o = 'x', n > 3")
	// behind all columns there is no next one
	mustPlan(t, "SELECT * FROM t WHERE a = 1 AND a > 0", "t: key a = 1")
	mustPlan(t, "SELECT * FROM u WHERE c = 1 AND d = 2 AND d < 5 AND c > 0", "u: key c = 1, d = 2")
}

// The most Fixed, then the most bounds, then the first way.
func TestP151Best(t *testing.T) {
	mustPlan(t, "SELECT * FROM t WHERE a = 1 AND b = 'x'", "t: index i b = 'x', a = 1")
	mustPlan(t, "SELECT * FROM t WHERE a = 1 AND b > 'x' AND b < 'z'", "t: key a = 1")
	mustPlan(t, "SELECT * FROM t WHERE b = 'x' AND a > 1 AND a < 9", "t: index i b = 'x', a > 1, a < 9")
	mustPlan(t, "SELECT * FROM t WHERE b > 'x' AND a > 1", "t: key a > 1")
	mustPlan(t, "SELECT * FROM t WHERE b > 'x' AND b < 'z' AND a > 1", "t: index i b > 'x', b < 'z'")
	mustPlan(t, "SELECT * FROM t WHERE b > 'x' AND b < 'z' AND a > 1 AND a <= 5", "t: key a > 1, a <= 5")
	mustPlan(t, "SELECT * FROM w WHERE n = 1", "w: index x n = 1")
	mustPlan(t, "SELECT * FROM w WHERE n = 1 AND p > 2", "w: index y n = 1, p > 2")
	mustPlan(t, "SELECT * FROM w WHERE n = 1 AND p = 2", "w: index y n = 1, p = 2")
	mustPlan(t, "SELECT * FROM w WHERE p = 2 AND n > 1 AND n < 5", "w: index v p = 2")
	mustPlan(t, "SELECT * FROM w WHERE p = 2 AND l = 'x' AND k = 1", "w: key l = 'x', k = 1")
	mustPlan(t, "SELECT * FROM w WHERE p = 2 AND l = 'x'", "w: index v p = 2, l = 'x'")
	mustPlan(t, "SELECT * FROM w WHERE p = 2 AND l = 'x' AND k > 1 AND k < 5", "w: index v p = 2, l = 'x'")
	mustPlan(t, "SELECT * FROM w WHERE n = 2 AND o = 'x'", "w: index z o = 'x', n = 2")
	mustPlan(t, "SELECT * FROM w WHERE n = 2 AND o = 'x' AND p = 5", "w: index y n = 2, p = 5")
	mustPlan(t, "SELECT * FROM w WHERE n = 2 AND o = 'x' AND p = 5 AND m < TRUE", "w: index z o = 'x', n = 2, m < TRUE")
	mustPlan(t, "SELECT * FROM w WHERE n = 2 AND p >= 1 AND o = 'x' AND l = 'y' AND k <= 4", "w: index z o = 'x', n = 2")
	mustPlan(t, "SELECT * FROM w WHERE n = 2 AND p >= 1 AND l = 'y' AND k <= 4", "w: key l = 'y', k <= 4")
	mustPlan(t, "SELECT * FROM w WHERE n = 2 AND p >= 1 AND p < 9 AND l = 'y' AND k <= 4", "w: index y n = 2, p >= 1, p < 9")
}

// wrongCatalogs are catalogs like defined() that are not right.
func wrongCatalogs() []api.Catalog {
	var l []api.Catalog
	for _, change := range []func(c *api.Catalog){
		func(c *api.Catalog) { c.Tables[0].Key = nil },
		func(c *api.Catalog) { c.Tables[0].Key[0] = 2 },
		func(c *api.Catalog) { c.Tables[0].Key[0] = 1 },
		func(c *api.Catalog) { c.Tables[0].Part = 1 },
		func(c *api.Catalog) { c.Tables[0].Columns[0].NotNull = false },
		func(c *api.Catalog) { c.Tables[0].Columns[1].Name = "A" },
		func(c *api.Catalog) { c.Tables[0].Indexes[0].Columns[0] = -1 },
		func(c *api.Catalog) { c.Tables[0].Indexes[0].Columns[0] = 2 },
		func(c *api.Catalog) { c.Tables[2].Indexes[0].Columns = nil },
		func(c *api.Catalog) { c.Tables[3].Name = "" },
		func(c *api.Catalog) { c.Procs = []api.Proc{{Name: "p"}} },
	} {
		c := defined()
		change(&c)
		l = append(l, c)
	}
	return append(l, api.Catalog{})
}

func TestP151WrongCatalogsAndParams(t *testing.T) {
	p := made(t, "SELECT * FROM t WHERE a = 3")
	ask := func(c api.Catalog, params []api.Param) {
		t.Helper()
		if got, e := plan.Make(c, params, p.Typed); e != api.ErrTyped || got.Access != nil || got.Typed.Kind != 0 {
			t.Errorf("Make = %v, %v", got, e)
		}
		if plan.Right(c, params, p) {
			t.Error("Right")
		}
		if got, e := plan.Explain(c, params, p); e != api.ErrPlan || got != "" {
			t.Errorf("Explain = %q, %v", got, e)
		}
	}
	for _, c := range wrongCatalogs() {
		ask(c, given())
	}
	for _, params := range [][]api.Param{{{Name: "P", Type: api.Int}}, {{Name: "p"}}, {{Name: "p", Type: 4}}, {{Name: "p", Type: api.Int}, {Name: "p", Type: api.Text}}, make([]api.Param, 9)} {
		ask(defined(), params)
	}
	if got, e := plan.Make(defined(), nil, p.Typed); e != api.OK || len(got.Access) != 1 {
		t.Error(got, e)
	}
}

func TestP151WrongStatements(t *testing.T) {
	for i, change := range []func(x *api.Typed){
		func(x *api.Typed) { x.Kind = 0 },
		func(x *api.Typed) { x.Kind = 5 },
		func(x *api.Typed) { x.Kind = api.StmtInsert },
		func(x *api.Typed) { x.Tables = nil },
		func(x *api.Typed) { x.Tables[0] = 4 },
		func(x *api.Typed) { x.Tables[0] = -1 },
		func(x *api.Typed) { x.Tables = []int{0, 1} },
		func(x *api.Typed) { x.Where[0].Kids[1].Type = api.Text },
		func(x *api.Typed) { x.Where[0].Kids = nil },
		func(x *api.Typed) { x.Where[0].Num = 7 },
		func(x *api.Typed) { x.Where[0].Kids[0].Num = 2 },
		func(x *api.Typed) { x.Where[0].Kids[1].Num = 3 },
		func(x *api.Typed) { x.Where = append(x.Where, x.Where[0]) },
		func(x *api.Typed) { x.On = x.Where },
		func(x *api.Typed) { x.Types = nil },
		func(x *api.Typed) { x.Columns = []int{0} },
		func(x *api.Typed) { *x = api.Typed{} },
	} {
		p := made(t, "SELECT a FROM t WHERE a = :n")
		change(&p.Typed)
		if got, e := plan.Make(defined(), given(), p.Typed); e != api.ErrTyped || got.Access != nil || got.Typed.Kind != 0 {
			t.Errorf("%d: Make = %v, %v", i, got, e)
		}
		mustBeWrong(t, p)
	}
}

func mustBeWrong(t *testing.T, l ...api.Plan) {
	t.Helper()
	for _, p := range l {
		if plan.Right(defined(), given(), p) {
			t.Errorf("%s is right", shown(p.Access))
		}
		if s, e := plan.Explain(defined(), given(), p); s != "" || e != api.ErrPlan {
			t.Errorf("Explain(%s) = %q, %v", shown(p.Access), s, e)
		}
	}
}

// mustTell holds the lines that are told of a statement with accesses of one's own against those that are wanted.
func mustTell(t *testing.T, source string, l []api.Access, want ...string) {
	t.Helper()
	p := api.Plan{Typed: typed(t, source), Access: l}
	if !plan.Right(defined(), given(), p) {
		t.Errorf("%s with %s is not right", source, shown(l))
	}
	if s, e := plan.Explain(defined(), given(), p); s != lines(want...) || e != api.OK {
		t.Errorf("Explain of %s with %s = %q, %v; want %q", source, shown(l), s, e, want)
	}
}

func accesses(l ...api.Access) []api.Access { return l }

// An access is right whatever the statement asks for.
func TestP151P152RightAccesses(t *testing.T) {
	all, key, index := api.Access{Way: api.WayAll}, api.Access{Way: api.WayKey}, api.Access{Way: api.WayIndex}
	for _, source := range []string{"SELECT a FROM t", "DELETE FROM t WHERE a + 1 = 2", "UPDATE t SET b = 'x' WHERE a = 5 AND b = 'y'"} {
		mustTell(t, source, accesses(all), "t: all")
		key.Fixed = terms(of("3"))
		mustTell(t, source, accesses(key), "t: key a = 3")
		key.Fixed = terms(of("NULL"))
		mustTell(t, source, accesses(key), "t: key a = NULL")
		key.Fixed, key.Low = nil, terms(param(0))
		mustTell(t, source, accesses(key), "t: key a >= :n")
		key.LowOpen, key.High = true, terms(of("4611686018427387904"))
		mustTell(t, source, accesses(key), "t: key a > :n, a <= 4611686018427387904")
		key.HighOpen = true
		mustTell(t, source, accesses(key), "t: key a > :n, a < 4611686018427387904")
		key.Low, key.LowOpen = nil, false
		mustTell(t, source, accesses(key), "t: key a < 4611686018427387904")
		key = api.Access{Way: api.WayKey}
		index.Fixed = terms(of("'it''s\\0a'"))
		mustTell(t, source, accesses(index), "t: index i b = 'it''s\\0a'")
		index.Fixed = append(index.Fixed, of("NULL"))
		mustTell(t, source, accesses(index), "t: index i b = 'it''s\\0a', a = NULL")
		index.Fixed = index.Fixed[:1]
		index.High = terms(param(0))
		mustTell(t, source, accesses(index), "t: index i b = 'it''s\\0a', a <= :n")
		index.Fixed, index.High = nil, terms(param(2))
		mustTell(t, source, accesses(index), "t: index i b <= :p")
		index.High = nil
	}
	mustTell(t, "INSERT INTO t VALUES (1, 'x')", nil)
	mustTell(t, "SELECT 1 FROM b JOIN w ON TRUE", accesses(
		api.Access{Table: 3, Way: api.WayKey, Low: terms(of("FALSE")), High: terms(param(1)), HighOpen: true},
		api.Access{Table: 2, Way: api.WayIndex, Index: 2, Fixed: terms(of("''"), param(0)), Low: terms(column(0, api.Bool)), LowOpen: true, High: terms(column(0, api.Bool))}),
		"b: key b >= FALSE, b < :q", "w: index z o = '', n = :n, m > b.b, m <= b.b")
	mustTell(t, "SELECT 1 FROM w JOIN u ON TRUE", accesses(
		api.Access{Table: 2, Way: api.WayIndex, Index: 3, Low: terms(of("0"))},
		api.Access{Table: 1, Way: api.WayKey, Fixed: terms(column(5, api.Int), column(0, api.Int))}),
		"w: index v p >= 0", "u: key c = w.p, d = w.k")
}

func TestP151WrongAccesses(t *testing.T) {
	one, x := of("1"), of("'x'")
	for _, a := range []api.Access{
		// no way, no table, no index
		{}, {Fixed: terms(one)}, {Way: 4}, {Way: 4, Fixed: terms(one)}, {Way: -1}, {Table: 1, Way: api.WayAll}, {Table: -1, Way: api.WayAll}, {Table: 1, Way: api.WayKey, Fixed: terms(one)}, {Table: 4, Way: api.WayKey, Fixed: terms(one)},
		{Way: api.WayKey, Index: 1, Fixed: terms(one)}, {Way: api.WayKey, Index: -1, Fixed: terms(one)}, {Way: api.WayIndex, Index: 1, Fixed: terms(x)}, {Way: api.WayIndex, Index: -1, Fixed: terms(x)},
		// all, and something else
		{Way: api.WayAll, Index: 1}, {Way: api.WayAll, Index: -1}, {Way: api.WayAll, Fixed: terms(one)}, {Way: api.WayAll, Low: terms(one)}, {Way: api.WayAll, High: terms(one)}, {Way: api.WayAll, LowOpen: true}, {Way: api.WayAll, HighOpen: true},
		// nothing at all
		{Way: api.WayKey}, {Way: api.WayIndex}, {Way: api.WayKey, LowOpen: true}, {Way: api.WayIndex, HighOpen: true},
		// more than there are columns
		{Way: api.WayKey, Fixed: terms(one, one)}, {Way: api.WayKey, Fixed: terms(one), Low: terms(one)}, {Way: api.WayKey, Fixed: terms(one), High: terms(one)}, {Way: api.WayIndex, Fixed: terms(x, one, one)}, {Way: api.WayIndex, Fixed: terms(x, one), Low: terms(one)}, {Way: api.WayIndex, Fixed: terms(x, one), High: terms(one)}, {Way: api.WayKey, Fixed: make([]api.Term, 100)},
		// more than one bound
		{Way: api.WayKey, Low: terms(one, one)}, {Way: api.WayKey, High: terms(one, one)}, {Way: api.WayIndex, Low: terms(x, one)}, {Way: api.WayIndex, High: terms(x, one)},
		// open where there is no bound
		{Way: api.WayKey, Fixed: terms(one), LowOpen: true}, {Way: api.WayKey, Fixed: terms(one), HighOpen: true}, {Way: api.WayKey, Low: terms(one), HighOpen: true}, {Way: api.WayKey, High: terms(one), LowOpen: true},
		// of other types
		{Way: api.WayKey, Fixed: terms(x)}, {Way: api.WayKey, Fixed: terms(of("TRUE"))}, {Way: api.WayKey, Low: terms(x)}, {Way: api.WayKey, High: terms(x)}, {Way: api.WayKey, Low: terms(one), High: terms(x)}, {Way: api.WayKey, Fixed: terms(param(1))}, {Way: api.WayKey, Fixed: terms(param(2))},
		{Way: api.WayIndex, Fixed: terms(one)}, {Way: api.WayIndex, Fixed: terms(one, x)}, {Way: api.WayIndex, Fixed: terms(x, x)}, {Way: api.WayIndex, Fixed: terms(x), Low: terms(x)}, {Way: api.WayIndex, Fixed: terms(x), Low: terms(one), High: terms(x)}, {Way: api.WayIndex, High: terms(one)},
		// not known
		{Way: api.WayKey, Fixed: terms(column(0, api.Int))}, {Way: api.WayKey, Low: terms(column(0, api.Int))}, {Way: api.WayKey, High: terms(column(2, api.Int))}, {Way: api.WayKey, Fixed: terms(column(-1, api.Int))}, {Way: api.WayIndex, Fixed: terms(x, column(0, api.Int))},
		{Way: api.WayKey, Fixed: terms(api.Term{Op: api.ExprNeg, Type: api.Int, Kids: terms(one)})}, {Way: api.WayKey, Fixed: terms(api.Term{Op: api.ExprArith, Num: 1, Type: api.Int, Kids: terms(one, one)})}, {Way: api.WayKey, Fixed: terms(api.Term{Op: api.ExprCount, Type: api.Int})}, {Way: api.WayKey, Fixed: terms(api.Term{Op: api.ExprMax, Type: api.Int, Kids: terms(one)})}, {Way: api.WayKey, Fixed: terms(api.Term{Type: api.Int})}, {Way: api.WayKey, Fixed: terms(api.Term{})},
		// not right
		{Way: api.WayKey, Fixed: terms(api.Term{Op: api.ExprValue, Value: one.Value})}, {Way: api.WayKey, Fixed: terms(api.Term{Op: api.ExprValue, Type: api.Int})}, {Way: api.WayKey, Fixed: terms(api.Term{Op: api.ExprValue, Type: api.Int, Value: x.Value})}, {Way: api.WayKey, Fixed: terms(of("-1"))}, {Way: api.WayKey, Low: terms(of("-1"))}, {Way: api.WayKey, High: terms(of("-1"))},
		{Way: api.WayKey, Fixed: terms(api.Term{Op: api.ExprValue, Type: api.Int, Value: api.Value{Kind: api.Int, Int: 1<<62 + 1}})}, {Way: api.WayKey, Fixed: terms(api.Term{Op: api.ExprValue, Type: api.Int, Num: 1, Value: one.Value})}, {Way: api.WayKey, Fixed: terms(api.Term{Op: api.ExprValue, Type: api.Int, Value: one.Value, Kids: terms(one)})}, {Way: api.WayKey, Low: terms(api.Term{Op: api.ExprValue, Value: api.Value{Int: 1}})},
		{Way: api.WayIndex, Fixed: terms(x, api.Term{Op: api.ExprValue, Type: api.Int, Value: api.Value{Kind: api.Int, Int: 1, Text: "x"}})}, {Way: api.WayIndex, Fixed: terms(api.Term{Op: api.ExprValue, Type: api.Text, Value: api.Value{Kind: api.Text, Text: strings.Repeat("x", 65)}})},
		{Way: api.WayKey, Fixed: terms(api.Term{Op: api.ExprParam, Num: 3, Type: api.Int})}, {Way: api.WayKey, Fixed: terms(api.Term{Op: api.ExprParam, Num: -1, Type: api.Int})}, {Way: api.WayKey, Fixed: terms(api.Term{Op: api.ExprParam, Num: 1, Type: api.Int})}, {Way: api.WayKey, Fixed: terms(api.Term{Op: api.ExprParam})}, {Way: api.WayKey, Fixed: terms(api.Term{Op: api.ExprParam, Type: api.Int, Value: one.Value})}, {Way: api.WayKey, Low: terms(api.Term{Op: api.ExprParam, Type: api.Int, Kids: terms(one)})},
	} {
		for _, source := range []string{"SELECT a FROM t", "DELETE FROM t WHERE a = 1"} {
			mustBeWrong(t, api.Plan{Typed: typed(t, source), Access: accesses(a)})
		}
	}
}

func TestP151WrongAccessesOfJoins(t *testing.T) {
	all := api.Access{Table: 1, Way: api.WayAll}
	key := func(x ...api.Term) api.Access { return api.Access{Way: api.WayKey, Fixed: x} }
	join := typed(t, "SELECT d FROM u JOIN t ON TRUE")
	for _, a := range []api.Access{key(column(0, api.Int)), key(column(1, api.Int)), {Way: api.WayKey, Low: terms(column(1, api.Int))}} {
		if p := (api.Plan{Typed: join, Access: accesses(all, a)}); !plan.Right(defined(), given(), p) {
			t.Errorf("%s is not right", shown(p.Access))
		}
	}
	for _, a := range []api.Access{
		key(column(2, api.Int)), key(column(3, api.Int)), key(column(-1, api.Int)), key(column(0, 0)), key(column(0, api.Text)), key(column(0, api.Int), column(0, api.Int)),
		{Way: api.WayIndex, Fixed: terms(column(0, api.Int))}, {Way: api.WayIndex, Fixed: terms(column(0, api.Text))}, {Way: api.WayKey, Low: terms(column(2, api.Int))}, {Way: api.WayKey, High: terms(column(2, api.Int))},
		key(api.Term{Op: api.ExprColumn, Type: api.Int, Value: of("1").Value}), key(api.Term{Op: api.ExprColumn, Type: api.Int, Kids: terms(of("1"))}),
		{Table: 1, Way: api.WayKey, Fixed: terms(of("1"))}, {Table: 1, Way: api.WayAll}, {Way: 0},
	} {
		mustBeWrong(t, api.Plan{Typed: join, Access: accesses(all, a)})
	}
	// the second table's accesses are not the first one's
	mustBeWrong(t, api.Plan{Typed: join, Access: accesses(api.Access{Table: 1, Way: api.WayKey, Fixed: terms(column(0, api.Int))}, api.Access{Way: api.WayAll})})
	mustBeWrong(t, api.Plan{Typed: join, Access: accesses(api.Access{Table: 1, Way: api.WayKey, Fixed: terms(column(2, api.Int))}, api.Access{Way: api.WayAll})})
	mustBeWrong(t, api.Plan{Typed: join, Access: accesses(api.Access{Way: api.WayAll}, all)})
	// an access for each table, none of an insert
	one := typed(t, "DELETE FROM t")
	mustBeWrong(t, api.Plan{Typed: join}, api.Plan{Typed: join, Access: accesses(all)}, api.Plan{Typed: join, Access: accesses(api.Access{Way: api.WayAll})}, api.Plan{Typed: join, Access: accesses(all, api.Access{Way: api.WayAll}, all)})
	mustBeWrong(t, api.Plan{Typed: one}, api.Plan{Typed: one, Access: accesses(api.Access{Way: api.WayAll}, api.Access{Way: api.WayAll})}, api.Plan{Typed: one, Access: accesses(api.Access{Way: api.WayAll}, all)})
	insert := typed(t, "INSERT INTO t VALUES (1, 'x')")
	mustBeWrong(t, api.Plan{Typed: insert, Access: accesses(api.Access{Way: api.WayAll})}, api.Plan{Typed: insert, Access: accesses(key(of("1")))}, api.Plan{Typed: insert, Access: make([]api.Access, 1)}, api.Plan{}, api.Plan{Access: accesses(api.Access{Way: api.WayAll})})
}

// A key or an index may have 8 columns, and a table 16; a statement 8 conjuncts a row of AND, and rows of AND within them.
func TestP151Limits(t *testing.T) {
	wide := api.Table{Name: strings.Repeat("w", 16)}
	for i := range api.MaxColumns {
		wide.Columns = append(wide.Columns, api.Column{Name: "c" + strings.Repeat("_", 14) + string(rune('a'+i)), Type: api.Int, NotNull: i < 8})
	}
	wide.Key = []int{7, 6, 5, 4, 3, 2, 1, 0}
	for i := range api.MaxIndexes {
		wide.Indexes = append(wide.Indexes, api.Index{Name: "i" + string(rune('a'+i)), Columns: []int{8, 9, 10, 11, 12, 13, 14, i}})
	}
	other := wide
	other.Name = "o"
	c := api.Catalog{Tables: []api.Table{wide, other}}
	test := func(place, cmp int, to api.Term) api.Term {
		return api.Term{Op: api.ExprCompare, Num: cmp, Type: api.Bool, Kids: terms(column(place, api.Int), to)}
	}
	and := func(l ...api.Term) api.Term { return api.Term{Op: api.ExprAnd, Type: api.Bool, Kids: l} }
	var key, index, joined []api.Term
	for i := range 8 {
		key = append(key, test(i, api.CmpEq, of("5")))
		index = append(index, test(8+i, api.CmpEq, of("6")))
		joined = append(joined, test(16+i, api.CmpEq, column(8+i, api.Int)))
	}
	explained := func(x api.Typed) (lines []string) {
		p, e := plan.Make(c, nil, x)
		s, f := plan.Explain(c, nil, p)
		if e != api.OK || f != api.OK || !plan.Right(c, nil, p) {
			t.Fatal(e, f)
		}
		return strings.Split(s, "\n")
	}
	x := api.Typed{Kind: api.StmtDelete, Tables: []int{0}, Where: terms(and(key...))}
	if got := explained(x); len(got) != 2 || strings.Count(got[0], " = 5") != 8 || !strings.HasPrefix(got[0], wide.Name+": key "+wide.Columns[7].Name+" = 5, "+wide.Columns[6].Name) {
		t.Errorf("%q", got)
	}
	x.Where = terms(and(and(key...), and(index...)))
	if got := explained(x); strings.Count(got[0], " = 5") != 8 {
		t.Errorf("%q", got)
	}
	key[0].Num = api.CmpLt
	if got := explained(x); strings.Count(got[0], " = 6") != 7 || !strings.HasPrefix(got[0], wide.Name+": index ib ") {
		t.Errorf("%q", got)
	}
	x.Where = terms(and(and(key...), test(0, api.CmpGe, of("1"))))
	if got := explained(x); strings.Count(got[0], ", ") != 8 || !strings.HasSuffix(got[0], wide.Columns[0].Name+" >= 1, "+wide.Columns[0].Name+" < 5") {
		t.Errorf("%q", got)
	}
	x = api.Typed{Kind: api.StmtSelect, Tables: []int{0, 1}, Items: terms(of("1")), Types: []int{api.Int}, On: terms(and(joined...))}
	if got := explained(x); len(got) != 3 || strings.Count(got[1], "= "+wide.Name+".c") != 8 || got[0] != wide.Name+": all" {
		t.Errorf("%q", got)
	}
	nine := api.Plan{Typed: x, Access: accesses(api.Access{Way: api.WayKey, Fixed: make([]api.Term, 9)}, api.Access{Table: 1, Way: api.WayAll})}
	for i := range nine.Access[0].Fixed {
		nine.Access[0].Fixed[i] = of("1")
	}
	if plan.Right(c, nil, nine) {
		t.Error("nine of eight columns")
	}
	nine.Access[0].Fixed = nine.Access[0].Fixed[:8]
	if !plan.Right(c, nil, nine) {
		t.Error("eight columns")
	}
}

// What has itself within is no plan.
func TestR1Knots(t *testing.T) {
	knot := api.Term{Op: api.ExprAnd, Type: api.Bool, Kids: make([]api.Term, 2)}
	knot.Kids[0], knot.Kids[1] = knot, knot
	x := typed(t, "DELETE FROM t WHERE a = 1")
	x.Where = terms(knot)
	if p, e := plan.Make(defined(), given(), x); e != api.ErrTyped || p.Access != nil {
		t.Error(e)
	}
	if p := (api.Plan{Typed: x, Access: accesses(api.Access{Way: api.WayAll})}); plan.Right(defined(), given(), p) {
		t.Error("right")
	}
	for _, op := range []int{api.ExprValue, api.ExprParam, api.ExprColumn, api.ExprAnd, 0} {
		knot.Op, knot.Type = op, 0
		for i := range knot.Kids {
			knot.Kids[i] = knot
		}
		for _, a := range []api.Access{{Way: api.WayKey, Fixed: terms(knot)}, {Way: api.WayKey, Low: terms(knot)}, {Way: api.WayIndex, High: terms(knot)}} {
			p := made(t, "DELETE FROM t WHERE a = 1")
			p.Access = accesses(a)
			if plan.Right(defined(), given(), p) {
				t.Error(op)
			}
			if s, e := plan.Explain(defined(), given(), p); s != "" || e != api.ErrPlan {
				t.Error(s, e)
			}
		}
	}
}

func TestP152Terms(t *testing.T) {
	for literal, want := range map[string]string{"0": "0", "4611686018427387904": "4611686018427387904", "NULL": "NULL", ":n": ":n"} {
		mustPlan(t, "SELECT a FROM t WHERE a = "+literal, "t: key a = "+want)
	}
	for literal, want := range map[string]string{"''": "''", "'x'": "'x'", "'it''s'": "'it''s'", "'a, b'": "'a, b'", "NULL": "NULL", ":p": ":p"} {
		mustPlan(t, "SELECT a FROM t WHERE b > "+literal, "t: index i b > "+want)
	}
	for literal, want := range map[string]string{"TRUE": "TRUE", "FALSE": "FALSE", "NULL": "NULL", ":q": ":q"} {
		mustPlan(t, "SELECT b FROM b WHERE b = "+literal, "b: key b = "+want)
	}
}

// same tells whether two typed statements are the same; a nil list is as an empty one.
func same(a, b api.Typed) bool { return shownTyped(a) == shownTyped(b) }
