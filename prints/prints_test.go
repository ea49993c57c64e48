package prints_test

import (
	"fmt"
	"math"
	"slices"
	"strings"
	"testing"

	"unison/api"
	"unison/key"
	"unison/prints"
	"unison/proc"
	"unison/value"
)

// columns are some, each written as its name, with ! if it is NotNull, and the first letter of its type.
func columns(l ...string) []api.Column {
	var out []api.Column
	for _, s := range l {
		name, kind, _ := strings.Cut(s, " ")
		plain := strings.TrimSuffix(name, "!")
		out = append(out, api.Column{Name: plain, Type: strings.Index(" IBT", kind), NotNull: plain != name})
	}
	return out
}

func params(l ...string) []api.Param {
	var out []api.Param
	for _, c := range columns(l...) {
		out = append(out, api.Param{Name: c.Name, Type: c.Type})
	}
	return out
}

// tables are the chapter's t; u, whose key's columns stand in another order than the table's, with indexes of both kinds; and n, which has no index.
func tables() []api.Table {
	return []api.Table{
		{Name: "t", Columns: columns("a! I", "b I"), Key: []int{0}, Indexes: []api.Index{{Name: "i", Columns: []int{1}, Unique: true}}},
		{Name: "u", Columns: columns("c! I", "d! T", "e! B", "f I", "g T"), Key: []int{1, 0, 2}, Part: 2, Indexes: []api.Index{{Name: "x", Columns: []int{3}}, {Name: "y", Columns: []int{3, 0}, Unique: true}, {Name: "z", Columns: []int{4}}, {Name: "v", Columns: []int{4, 3}, Unique: true}}},
		{Name: "n", Columns: columns("h! I", "k I"), Key: []int{0}},
	}
}

func book(t *testing.T, c api.Catalog) *proc.Book {
	t.Helper()
	b, i, k, f := proc.New(c)
	if b == nil {
		t.Fatalf("%+v: %d, %d, %+v", c, i, k, f)
	}
	return b
}

// of is the book of a single procedure, p, with parameters of each type.
func of(t *testing.T, body ...string) *proc.Book {
	t.Helper()
	return book(t, api.Catalog{Tables: tables(), Procs: []api.Proc{{Name: "p", Params: params("p I", "q I", "s T", "r B"), Body: body, Rows: 9, Bytes: 99}}})
}

// list are the values of literals with blanks between.
func list(s string) []api.Value {
	var l []api.Value
	for _, word := range strings.Fields(s) {
		v, e := value.Parse(word)
		if e != api.OK {
			panic(word)
		}
		l = append(l, v)
	}
	return l
}

func call(args string) api.Call { return api.Call{Client: 1, Seq: 1, Proc: "p", Args: list(args)} }

// k is the key of some literals' values, z its end: Next of it.
func k(s string) string {
	out, e := key.Encode(list(s)...)
	if e != api.OK {
		panic(s)
	}
	return out
}

func z(s string) string {
	out, ok := key.Next(k(s))
	if !ok {
		panic(s)
	}
	return out
}

// r and w are locks to read and to write; r1 and w1 of what begins with the key of some values; all of whole tables, mark of a Unique index.
func r(table int, lo, hi string) api.Lock { return api.Lock{Table: table, Lo: lo, Hi: hi} }

func w(table int, lo, hi string) api.Lock { return api.Lock{Table: table, Lo: lo, Hi: hi, Write: true} }

func r1(table int, s string) api.Lock { return r(table, k(s), z(s)) }

func w1(table int, s string) api.Lock { return w(table, k(s), z(s)) }

func rAll(table int) api.Lock { return r(table, "\x01", "") }

func wAll(table int) api.Lock { return w(table, "\x01", "") }

func mark(table, index int) api.Lock {
	return w(table, "\x00"+string(rune(index+1)), "\x00"+string(rune(index+2)))
}

func shown(l []api.Lock) string {
	var out []string
	for _, x := range l {
		out = append(out, fmt.Sprintf("%d, %x to %x, %t", x.Table, x.Lo, x.Hi, x.Write))
	}
	return strings.Join(out, "; ")
}

// mustPrint holds the footprint of a call of the sources with these arguments against the locks that are wanted.
func mustPrint(t *testing.T, args string, body []string, want ...api.Lock) {
	t.Helper()
	l, e := prints.Of(of(t, body...), call(args))
	if e != api.OK || !slices.Equal(l, want) {
		t.Errorf("%q with %s: %s, %v; want %s", body, args, shown(l), e, shown(want))
	}
}

// mustLock is mustPrint of a single source, p being 3, q 7, s 'm' and r TRUE.
func mustLock(t *testing.T, source string, want ...api.Lock) {
	t.Helper()
	mustPrint(t, "3 7 'm' TRUE", []string{source}, want...)
}

func TestExamples(t *testing.T) {
	mustLock(t, "SELECT * FROM t WHERE a = :p", r1(0, "3"))
	mustLock(t, "SELECT * FROM t WHERE a > :p AND a <= 7", r(0, z("3"), z("7")))
	mustLock(t, "SELECT * FROM t WHERE b = :p", rAll(0))
	mustLock(t, "UPDATE t SET b = 0 WHERE a = 5", w1(0, "5"), mark(0, 0))
	mustLock(t, "UPDATE t SET a = a + 1 WHERE a = 5", wAll(0))
	mustLock(t, "INSERT INTO t VALUES (:p, 1)", w1(0, "3"), mark(0, 0))
	mustLock(t, "DELETE FROM t WHERE a = NULL", mark(0, 0))
	mustLock(t, "SELECT * FROM t WHERE a > 9 AND a < 2")
}

// The bytes, written out.
func TestO1Bytes(t *testing.T) {
	number := func(n byte) string { return "\x02\x80\x00\x00\x00\x00\x00\x00" + string([]byte{n}) }
	mustLock(t, "SELECT * FROM t WHERE a = :p", r(0, number(3), number(4)))
	mustLock(t, "SELECT * FROM t WHERE a = 255", r(0, number(255), "\x02\x80\x00\x00\x00\x00\x00\x01"))
	mustLock(t, "SELECT * FROM t WHERE a > 255", r(0, "\x02\x80\x00\x00\x00\x00\x00\x01", ""))
	mustLock(t, "SELECT * FROM t WHERE a < 0", r(0, "", number(0)))
	mustPrint(t, "-1 0 '' FALSE", []string{"SELECT * FROM t WHERE a = :p"}, r(0, "\x02\x7f\xff\xff\xff\xff\xff\xff\xff", "\x02\x80"))
	mustLock(t, "SELECT * FROM u WHERE d = 'it' AND c = 1 AND e = FALSE", r(1, "\x04it\x00\x00"+number(1)+"\x03\x00", "\x04it\x00\x00"+number(1)+"\x03\x01"))
	mustPrint(t, `0 0 '\00\ff' TRUE`, []string{"SELECT * FROM u WHERE d = :s"}, r(1, "\x04\x00\xff\xff\x00\x00", "\x04\x00\xff\xff\x00\x01"))
	mustPrint(t, `0 0 '' TRUE`, []string{"SELECT * FROM u WHERE d <= :s"}, r(1, "", "\x04\x00\x01"))
	mustLock(t, "SELECT * FROM u WHERE e = TRUE", r(1, "\x01", ""))
	mustLock(t, "DELETE FROM u", w(1, "\x01", ""), w(1, "\x00\x02", "\x00\x03"), w(1, "\x00\x04", "\x00\x05"))
	mustLock(t, "DELETE FROM t", w(0, "\x01", ""), w(0, "\x00\x01", "\x00\x02"))
}

func TestO1RangesOfAKey(t *testing.T) {
	for where, want := range map[string]api.Lock{
		"a = 7":               r1(0, "7"),
		"7 = a":               r1(0, "7"),
		"a = :q":              r1(0, "7"),
		"a >= :p":             r(0, k("3"), ""),
		"a > :p":              r(0, z("3"), ""),
		"a <= :p":             r(0, "", z("3")),
		"a < :p":              r(0, "", k("3")),
		":p < a":              r(0, z("3"), ""),
		":p >= a":             r(0, "", z("3")),
		"a >= :p AND a <= :q": r(0, k("3"), z("7")),
		"a >= :p AND a < :q":  r(0, k("3"), k("7")),
		"a > :p AND a <= :q":  r(0, z("3"), z("7")),
		"a > :p AND a < :q":   r(0, z("3"), k("7")),
		"a >= 3 AND a <= :p":  r1(0, "3"),
		"a > 3 AND a < 5":     r1(0, "4"),
		"a = 3 AND b = 4":     r1(0, "3"),
		"a = 3 AND a = 4":     r1(0, "3"),
		"a = 3 AND a < 2":     r1(0, "3"),
		"a < 5 AND a < 3":     r(0, "", k("5")),
		"a >= 3 AND TRUE":     r(0, k("3"), ""),
		"a = 3 AND b IS NULL": r1(0, "3"),
		"a > 3 AND a <> 9":    r(0, z("3"), ""),
		"a = 3 AND NULL":      r1(0, "3"),
	} {
		mustLock(t, "SELECT b FROM t WHERE "+where, want)
		want.Write = true
		mustLock(t, "DELETE FROM t WHERE "+where, want, mark(0, 0))
		mustLock(t, "UPDATE t SET b = 1 WHERE "+where, want, mark(0, 0))
	}
}

func TestO1RangesOfSomeColumns(t *testing.T) {
	for where, want := range map[string]api.Lock{
		"d = 'x'":                                r1(1, "'x'"),
		"d = :s AND e = TRUE":                    r1(1, "'m'"),
		"d = :s AND c = :p":                      r1(1, "'m' 3"),
		"c = :p AND d = :s":                      r1(1, "'m' 3"),
		"e = :r AND c = :p AND d = :s":           r1(1, "'m' 3 TRUE"),
		"d > 'x'":                                r(1, z("'x'"), ""),
		"d >= '' AND d < :s":                     r(1, k("''"), k("'m'")),
		"d > 'x' AND c = 3":                      r(1, z("'x'"), ""),
		"d = 'x' AND c > 3":                      r(1, z("'x' 3"), z("'x'")),
		"d = 'x' AND c >= 3":                     r(1, k("'x' 3"), z("'x'")),
		"d = 'x' AND c < 3":                      r(1, k("'x'"), k("'x' 3")),
		"d = 'x' AND c <= 3":                     r(1, k("'x'"), z("'x' 3")),
		"d = 'x' AND c > 3 AND c <= 9":           r(1, z("'x' 3"), z("'x' 9")),
		"d = 'x' AND c >= 3 AND c < 9":           r(1, k("'x' 3"), k("'x' 9")),
		"d = 'x' AND c = 3 AND e > FALSE":        r(1, z("'x' 3 FALSE"), z("'x' 3")),
		"d = 'x' AND c = 3 AND e <= :r":          r(1, k("'x' 3"), z("'x' 3 TRUE")),
		"d = 'x' AND c = 3 AND f = 1 AND c <> 1": r1(1, "'x' 3"),
	} {
		mustLock(t, "SELECT * FROM u WHERE "+where, want)
		want.Write = true
		mustLock(t, "DELETE FROM u WHERE "+where, want, mark(1, 1), mark(1, 3))
		mustLock(t, "UPDATE u SET g = NULL WHERE "+where, want, mark(1, 3))
	}
}

func TestO1Wholes(t *testing.T) {
	for _, source := range []string{
		"SELECT * FROM t", "SELECT COUNT(*) FROM t", "SELECT a FROM t LIMIT 1", "SELECT 1 FROM t WHERE TRUE", "SELECT 1 FROM t WHERE FALSE", "SELECT 1 FROM t WHERE NULL",
		// by an index
		"SELECT * FROM t WHERE b = :p", "SELECT * FROM t WHERE b > :p AND b <= 9", "SELECT * FROM t WHERE b = NULL", "SELECT * FROM t WHERE b > 9 AND b < 2", "SELECT * FROM t WHERE b = 3 AND a < 2", "SELECT * FROM t WHERE b = NULL AND a > 2",
		// no bond
		"SELECT * FROM t WHERE a <> 3", "SELECT * FROM t WHERE a = b", "SELECT * FROM t WHERE a = a", "SELECT * FROM t WHERE a = 1 OR a = 2", "SELECT * FROM t WHERE NOT a = 1", "SELECT * FROM t WHERE a IS NULL", "SELECT * FROM t WHERE (a = 1) = TRUE", "SELECT * FROM t WHERE 1 = :p",
		// not safe
		"SELECT * FROM t WHERE a + 0 = :p", "SELECT * FROM t WHERE a = 1 + 1", "SELECT * FROM t WHERE a = -1", "SELECT * FROM t WHERE a = 3 AND b + 1 = 2", "SELECT * FROM t WHERE a = 3 AND -b = 2",
	} {
		mustLock(t, source, rAll(0))
	}
	mustLock(t, "SELECT * FROM u WHERE c = 3 AND e = TRUE", rAll(1))
	mustLock(t, "SELECT * FROM u WHERE d = 'x' AND f = 3 AND g = 'y'", rAll(1))
	mustLock(t, "SELECT * FROM n WHERE k = 3", rAll(2))
	mustLock(t, "DELETE FROM n", wAll(2))
	mustLock(t, "DELETE FROM t WHERE b = 3", wAll(0), mark(0, 0))
	mustLock(t, "UPDATE n SET k = 0", wAll(2))
	mustLock(t, "UPDATE t SET b = 0 WHERE b = NULL", wAll(0), mark(0, 0))
}

// NULL in any place of an access lets nothing through.
func TestO1Nulls(t *testing.T) {
	for _, null := range []string{"NULL", ":p"} {
		for _, where := range []string{"a = X", "a > X", "a >= X", "a < X", "a <= X", "a > X AND a < 9", "a > 2 AND a <= X", "a >= X AND a <= X", "a = X AND b = 3"} {
			where = strings.ReplaceAll(where, "X", null)
			mustPrint(t, "NULL NULL NULL NULL", []string{"SELECT * FROM t WHERE " + where})
			mustPrint(t, "NULL NULL NULL NULL", []string{"DELETE FROM t WHERE " + where}, mark(0, 0))
			mustPrint(t, "NULL NULL NULL NULL", []string{"UPDATE t SET b = 1 WHERE " + where}, mark(0, 0))
			mustPrint(t, "NULL NULL NULL NULL", []string{"UPDATE t SET a = 1 WHERE " + where}, wAll(0))
		}
		for _, where := range []string{"d = 'x' AND c = X", "d = 'x' AND c > X", "d = 'x' AND c < X", "d = NULL AND c = 3", "d = :s AND c > 3", "d = 'x' AND c = X AND e = TRUE", "d = 'x' AND c > 3 AND c < X", "d = 'x' AND c = 3 AND e = :r"} {
			mustPrint(t, "NULL NULL NULL NULL", []string{"SELECT * FROM u WHERE " + strings.ReplaceAll(where, "X", null)})
		}
	}
	// what stands in no access is of no weight
	mustPrint(t, "3 NULL NULL NULL", []string{"SELECT * FROM t WHERE a = :p AND b = :q"}, r1(0, "3"))
	mustPrint(t, "3 NULL NULL NULL", []string{"UPDATE t SET b = :q WHERE a = :p"}, w1(0, "3"), mark(0, 0))
	mustPrint(t, "3 NULL NULL NULL", []string{"SELECT * FROM t WHERE a = :p", "SELECT * FROM t WHERE a = :q", "DELETE FROM n WHERE h > :p"}, r1(0, "3"), w(2, z("3"), ""))
}

func TestO1NoText(t *testing.T) {
	for _, where := range []string{"a > 3 AND a < 3", "a >= 3 AND a < 3", "a > 3 AND a <= 3", "a > 3 AND a < 4", "a >= 4 AND a <= 3", "a > 9 AND a < 2", "a >= :q AND a <= :p"} {
		mustLock(t, "SELECT * FROM t WHERE "+where)
		mustLock(t, "DELETE FROM t WHERE "+where, mark(0, 0))
		mustLock(t, "UPDATE t SET b = 1 WHERE "+where, mark(0, 0))
		mustLock(t, "UPDATE t SET a = 1 WHERE "+where, wAll(0))
	}
	for _, where := range []string{"d > 'b' AND d < 'a'", "d >= 'a' AND d < 'a'", "d = 'x' AND c > 5 AND c <= 5", "d = 'x' AND c = 1 AND e > FALSE AND e < TRUE", "d = 'x' AND c = 1 AND e > TRUE AND e < FALSE"} {
		mustLock(t, "SELECT * FROM u WHERE "+where)
	}
	// there are texts between, though no key
	mustLock(t, "SELECT * FROM u WHERE d > '' AND d < '\\00'", r(1, z("''"), k(`'\00'`)))
	mustLock(t, "SELECT * FROM u WHERE d = 'x' AND c = 1 AND e > TRUE", r(1, z("'x' 1 TRUE"), z("'x' 1")))
	mustLock(t, "SELECT * FROM u WHERE d = 'x' AND c = 1 AND e < FALSE", r(1, k("'x' 1"), k("'x' 1 FALSE")))
}

func TestO1EndsOfValues(t *testing.T) {
	for _, n := range []string{"4611686018427387904", "-4611686018427387904", "0", "-1", "-256", "65535"} {
		args := n + " 0 '' TRUE"
		mustPrint(t, args, []string{"SELECT * FROM t WHERE a = :p"}, r1(0, n))
		mustPrint(t, args, []string{"SELECT * FROM t WHERE a > :p"}, r(0, z(n), ""))
		mustPrint(t, args, []string{"SELECT * FROM t WHERE a < :p"}, r(0, "", k(n)))
		mustPrint(t, args, []string{"INSERT INTO t VALUES (:p, :p)"}, w1(0, n), mark(0, 0))
	}
	for _, s := range []string{"''", `'\ff'`, `'\00'`, "'" + strings.Repeat(`\ff`, 64) + "'", "'" + strings.Repeat(`\00`, 64) + "'"} {
		args := "0 0 " + s + " TRUE"
		mustPrint(t, args, []string{"SELECT * FROM u WHERE d = :s"}, r1(1, s))
		mustPrint(t, args, []string{"SELECT * FROM u WHERE d > :s"}, r(1, z(s), ""))
		mustPrint(t, args, []string{"SELECT * FROM u WHERE d <= :s"}, r(1, "", z(s)))
	}
}

// A key of eight columns, all of them fixed, or but the last one, which is bound.
func TestO1EightColumns(t *testing.T) {
	wide := api.Table{Name: "t"}
	var tests []string
	for i := range api.MaxColumns {
		name := "c" + string(rune('a'+i))
		wide.Columns = append(wide.Columns, columns(name+"! I")...)
		if i < 8 {
			wide.Key = append(wide.Key, 7-i)
			tests = append(tests, fmt.Sprintf("%s = %d", name, i))
		}
	}
	for i := range api.MaxIndexes {
		wide.Indexes = append(wide.Indexes, api.Index{Name: "i" + string(rune('a'+i)), Columns: []int{15 - i}, Unique: true})
	}
	wide.Columns[0].Type = api.Text
	tests[0] = "ca = 'x'"
	keys, last := "7 6 5 4 3 2 1", " 'x'"
	all := strings.Join(tests, " AND ")
	c := api.Catalog{Tables: []api.Table{wide}}
	for i, body := range []string{"SELECT ca FROM t WHERE " + all, "DELETE FROM t WHERE " + all, "SELECT cb FROM t WHERE " + strings.Replace(all, "ca =", "ca >", 1), "UPDATE t SET cp = 1, cm = 1, ci = 0 WHERE " + strings.Replace(all, "ca =", "ca <=", 1), "INSERT INTO t VALUES ('x', 1, 2, 3, 4, 5, 6, 7, 8, 9, 10, 11, 12, 13, 14, 15)"} {
		want := [][]api.Lock{{r1(0, keys+last)}, {w1(0, keys+last), mark(0, 0), mark(0, 1), mark(0, 2), mark(0, 3)}, {r(0, z(keys+last), z(keys))}, {w(0, k(keys), z(keys+last)), mark(0, 0), mark(0, 3)}, {w1(0, keys+last), mark(0, 0), mark(0, 1), mark(0, 2), mark(0, 3)}}[i]
		c.Procs = []api.Proc{{Name: "p", Body: []string{body}}}
		if l, e := prints.Of(book(t, c), call("")); e != api.OK || !slices.Equal(l, want) {
			t.Errorf("%s: %s, %v; want %s", body, shown(l), e, shown(want))
		}
	}
}

// The second table's access may name the first one's columns: then it says no range.
func TestO1Joins(t *testing.T) {
	mustLock(t, "SELECT * FROM t JOIN n ON a = h", rAll(0), rAll(2))
	mustLock(t, "SELECT * FROM t JOIN n ON a = h WHERE a = :p", r1(0, "3"), rAll(2))
	mustLock(t, "SELECT * FROM t JOIN n ON h = :q WHERE a = :p", r1(0, "3"), r1(2, "7"))
	mustLock(t, "SELECT * FROM n JOIN t ON h = :q WHERE a = :p", r1(2, "7"), r1(0, "3"))
	mustLock(t, "SELECT * FROM t JOIN u ON d = 'x' AND c = a WHERE a < 3", r(0, "", k("3")), rAll(1))
	mustLock(t, "SELECT * FROM t JOIN u ON d = 'x' AND c = a WHERE a < 3 AND c = 5", r(0, "", k("3")), r1(1, "'x' 5"))
	mustLock(t, "SELECT * FROM t JOIN u ON d = 'x' AND c >= a AND c < 9", rAll(0), rAll(1))
	mustLock(t, "SELECT * FROM t JOIN u ON d = 'x' AND c >= 3 AND c < b", rAll(0), rAll(1))
	mustLock(t, "SELECT * FROM t JOIN u ON d = NULL AND c = a", rAll(0), rAll(1))
	mustLock(t, "SELECT * FROM t JOIN u ON d = NULL AND c = 3", rAll(0))
	mustLock(t, "SELECT * FROM t JOIN u ON d = 'x' WHERE a = NULL", r1(1, "'x'"))
	mustLock(t, "SELECT * FROM t JOIN n ON h > 9 AND h < 2 WHERE a = NULL")
	mustLock(t, "SELECT * FROM t JOIN u ON f = 3 WHERE a = 3", r1(0, "3"), rAll(1))
	mustLock(t, "SELECT * FROM t JOIN n ON h = 3 WHERE a + 0 = 3", rAll(0), rAll(2))
}

// An update of a column of the key takes the whole; of the marks it takes those of the Unique indexes that have a column which is set.
func TestO1Updates(t *testing.T) {
	x := w1(1, "'x' 1")
	where := " WHERE d = 'x' AND c = 1"
	mustLock(t, "UPDATE u SET f = 1"+where, x, mark(1, 1), mark(1, 3))
	mustLock(t, "UPDATE u SET g = 'y'"+where, x, mark(1, 3))
	mustLock(t, "UPDATE u SET g = 'y', f = 2"+where, x, mark(1, 1), mark(1, 3))
	mustLock(t, "UPDATE u SET g = g"+where, x, mark(1, 3))
	mustLock(t, "UPDATE u SET f = 1 / 0"+where, x, mark(1, 1), mark(1, 3))
	mustLock(t, "UPDATE u SET c = c"+where, wAll(1), mark(1, 1))
	mustLock(t, "UPDATE u SET d = 'x'"+where, wAll(1))
	mustLock(t, "UPDATE u SET e = TRUE"+where, wAll(1))
	mustLock(t, "UPDATE u SET g = NULL, e = TRUE"+where, wAll(1), mark(1, 3))
	mustLock(t, "UPDATE u SET f = 1, d = 'x'", wAll(1), mark(1, 1), mark(1, 3))
	mustLock(t, "UPDATE n SET k = 1 WHERE h = 3", w1(2, "3"))
	mustLock(t, "UPDATE n SET h = 3 WHERE h = 3", wAll(2))
	mustLock(t, "UPDATE n SET k = 1, h = 3 WHERE h = NULL", wAll(2))
}

func TestO1Inserts(t *testing.T) {
	marks := []api.Lock{mark(1, 1), mark(1, 3)}
	for values, want := range map[string]api.Lock{
		"1, 'x', TRUE, 2, 'y'":           w1(1, "'x' 1 TRUE"),
		":p, :s, :r, :q, NULL":           w1(1, "'m' 3 TRUE"),
		"1, :s, FALSE, NULL, NULL":       w1(1, "'m' 1 FALSE"),
		"1, 'x', TRUE, 1 / 0, NULL":      w1(1, "'x' 1 TRUE"),
		"1, 'x', TRUE, -1, 'y'":          w1(1, "'x' 1 TRUE"),
		"-1, 'x', TRUE, 2, 'y'":          wAll(1),
		":p + 1, 'x', TRUE, 2, 'y'":      wAll(1),
		"1, 'x', NOT TRUE, 2, 'y'":       wAll(1),
		"1, 'x', 1 < 2, 2, 'y'":          wAll(1),
		"1, 'x', NULL IS NULL, 2, :s":    wAll(1),
		"1 - 1, NULL, TRUE, 2, 'y'":      wAll(1),
		"NULL, 'x', TRUE OR TRUE, 2, :s": wAll(1),
	} {
		mustLock(t, "INSERT INTO u VALUES ("+values+")", append([]api.Lock{want}, marks...)...)
	}
	for _, values := range []string{"NULL, 'x', TRUE, 2, 'y'", "1, NULL, TRUE, 2, 'y'", "1, 'x', NULL, 2, 'y'", "NULL, NULL, NULL, NULL, NULL", "NULL, 'x', TRUE, 1 + 1, 'y'"} {
		mustLock(t, "INSERT INTO u VALUES ("+values+")")
	}
	for _, args := range []string{"NULL 7 'm' TRUE", "3 7 NULL TRUE", "3 7 'm' NULL"} {
		mustPrint(t, args, []string{"INSERT INTO u VALUES (:p, :s, :r, :q, 'y')"})
	}
	mustPrint(t, "3 NULL 'm' TRUE", []string{"INSERT INTO u VALUES (:p, :s, :r, :q, 'y')"}, w1(1, "'m' 3 TRUE"), mark(1, 1), mark(1, 3))
	mustLock(t, "INSERT INTO n VALUES (:p, 1)", w1(2, "3"))
	mustLock(t, "INSERT INTO n VALUES (:p, NULL)", w1(2, "3"))
	mustLock(t, "INSERT INTO n VALUES (:p * 1, 1)", wAll(2))
}

// Statements come in their order; of locks that are the same the first one is told.
func TestO1Procedures(t *testing.T) {
	mustLock(t, "SELECT * FROM n WHERE h = 3", r1(2, "3"))
	one := "SELECT * FROM n WHERE h = 3"
	mustPrint(t, "3 7 'm' TRUE", []string{one, one, "SELECT k FROM n WHERE h = :p", "SELECT k FROM n WHERE h >= 3 AND h <= :p"}, r1(2, "3"))
	mustPrint(t, "3 7 'm' TRUE", []string{one, "DELETE FROM n WHERE h = 3", one, "UPDATE n SET k = 1 WHERE h = 3"}, r1(2, "3"), w1(2, "3"))
	mustPrint(t, "3 7 'm' TRUE", []string{"DELETE FROM n WHERE h = 3", one}, w1(2, "3"), r1(2, "3"))
	mustPrint(t, "3 7 'm' TRUE", []string{one, "SELECT * FROM n WHERE h >= 3", "SELECT * FROM n WHERE h < 9", "SELECT * FROM n", "SELECT * FROM n WHERE h = 4"}, r1(2, "3"), r(2, k("3"), ""), r(2, "", k("9")), rAll(2), r1(2, "4"))
	mustPrint(t, "3 7 'm' TRUE", []string{"INSERT INTO t VALUES (1, 1)", "INSERT INTO t VALUES (2, 1)", "DELETE FROM t WHERE a = 1", "UPDATE t SET a = 9", "SELECT * FROM t"}, w1(0, "1"), mark(0, 0), w1(0, "2"), wAll(0), rAll(0))
	mustPrint(t, "3 7 'm' TRUE", []string{"UPDATE u SET g = 'x' WHERE d = :s", "UPDATE u SET f = 3 WHERE d = :s", "DELETE FROM t WHERE a = 1"}, w1(1, "'m'"), mark(1, 3), mark(1, 1), w1(0, "1"), mark(0, 0))
	mustPrint(t, "3 3 'm' TRUE", []string{"SELECT * FROM t JOIN n ON h = 3 WHERE a = 3", "SELECT * FROM n JOIN t ON h = :p WHERE a = :q"}, r1(0, "3"), r1(2, "3"))
	mustPrint(t, "3 7 'm' TRUE", []string{"SELECT * FROM t WHERE a = NULL", "INSERT INTO t VALUES (NULL, 1)"})
}

// Each procedure has its own statements and parameters.
func TestO1ThatProcedure(t *testing.T) {
	b := book(t, api.Catalog{Tables: tables(), Procs: []api.Proc{
		{Name: "p", Params: params("k I"), Body: []string{"SELECT * FROM t WHERE a = :k"}},
		{Name: "q", Params: params("l T", "k I"), Body: []string{"DELETE FROM n WHERE h > :k", "SELECT * FROM u WHERE d = :l"}},
	}})
	for name, args := range map[string]string{"p": "3", "q": "'x' 5"} {
		c := call(args)
		c.Proc = name
		want := []api.Lock{r1(0, "3")}
		if name == "q" {
			want = []api.Lock{w(2, z("5"), ""), r1(1, "'x'")}
		}
		if l, e := prints.Of(b, c); e != api.OK || !slices.Equal(l, want) {
			t.Errorf("%s: %s, %v; want %s", name, shown(l), e, shown(want))
		}
	}
}

// Neither the client nor the Seq is of weight, nor is a budget.
func TestO1OfNoWeight(t *testing.T) {
	b := of(t, "SELECT * FROM t WHERE a = :p", "DELETE FROM n WHERE h = :q")
	want := []api.Lock{r1(0, "3"), w1(2, "7")}
	for _, client := range []int{1, 2, 64} {
		for _, seq := range []int{1, 9, 1 << 62} {
			c := call("3 7 'm' TRUE")
			c.Client, c.Seq = client, seq
			if l, e := prints.Of(b, c); e != api.OK || !slices.Equal(l, want) {
				t.Errorf("%d, %d: %s, %v", client, seq, shown(l), e)
			}
		}
	}
	x := b.Catalog()
	x.Procs[0].Rows, x.Procs[0].Bytes = 0, 0
	if l, e := prints.Of(book(t, x), call("3 7 'm' TRUE")); e != api.OK || !slices.Equal(l, want) {
		t.Errorf("%s, %v", shown(l), e)
	}
}

func TestO1NotAdmitted(t *testing.T) {
	b := of(t, "SELECT * FROM t WHERE a = :p", "INSERT INTO t VALUES (:p, :q)")
	text := strings.Repeat("x", 65)
	for i, x := range []struct {
		change func(c *api.Call)
		want   api.Errno
	}{
		{func(c *api.Call) {}, api.OK},
		{func(c *api.Call) { c.Client = 0 }, api.ErrArg},
		{func(c *api.Call) { c.Client = 65 }, api.ErrArg},
		{func(c *api.Call) { c.Client = math.MinInt }, api.ErrArg},
		{func(c *api.Call) { c.Seq = 0 }, api.ErrArg},
		{func(c *api.Call) { c.Seq = 1<<62 + 1 }, api.ErrArg},
		{func(c *api.Call) { c.Seq, c.Proc, c.Args = -1, "x", nil }, api.ErrArg},
		{func(c *api.Call) { c.Proc = "" }, api.ErrProc},
		{func(c *api.Call) { c.Proc = "q" }, api.ErrProc},
		{func(c *api.Call) { c.Proc, c.Args = "t", nil }, api.ErrProc},
		{func(c *api.Call) { c.Args = nil }, api.ErrArgs},
		{func(c *api.Call) { c.Args = c.Args[:3] }, api.ErrArgs},
		{func(c *api.Call) { c.Args = append(c.Args, api.Value{}) }, api.ErrArgs},
		{func(c *api.Call) { c.Args[0] = api.Value{Kind: api.Bool} }, api.ErrArgs},
		{func(c *api.Call) { c.Args[0] = api.Value{Int: 1} }, api.ErrArgs},
		{func(c *api.Call) { c.Args[1].Int = 1<<62 + 1 }, api.ErrArgs},
		{func(c *api.Call) { c.Args[2].Text = text }, api.ErrArgs},
		{func(c *api.Call) { c.Args[3].Int = 2 }, api.ErrArgs},
		{func(c *api.Call) { c.Args[3].Kind = 4 }, api.ErrArgs},
	} {
		c := call("3 7 'm' TRUE")
		x.change(&c)
		l, e := prints.Of(b, c)
		if e != x.want || b.Admit(c) != x.want || x.want != api.OK && l != nil {
			t.Errorf("%d: %s, %v; want %v", i, shown(l), e, x.want)
		}
	}
}

// What stands in no statement's access is asked of the arguments too.
func TestO1NoParams(t *testing.T) {
	b := book(t, api.Catalog{Tables: tables(), Procs: []api.Proc{{Name: "p", Body: []string{"DELETE FROM t WHERE a = 3"}}}})
	if l, e := prints.Of(b, call("")); e != api.OK || !slices.Equal(l, []api.Lock{w1(0, "3"), mark(0, 0)}) {
		t.Errorf("%s, %v", shown(l), e)
	}
	if l, e := prints.Of(b, call("3")); e != api.ErrArgs || l != nil {
		t.Errorf("%s, %v", shown(l), e)
	}
}

func TestO2Edges(t *testing.T) {
	l := []api.Lock{r(0, "b", "d"), w(1, "x", ""), r(2, "", ""), w(3, "", "\x00"), r(3, "\x00", "b"), r(4, "d", "b"), w(4, "d", "d"), r(-1, "a", "b"), w(math.MaxInt, "a", "b")}
	for _, x := range []struct {
		table       int
		text        string
		read, write bool
	}{
		{0, "a", false, false}, {0, "a\xff", false, false}, {0, "b", true, false}, {0, "b\x00", true, false}, {0, "c", true, false}, {0, "c\xff\xff", true, false}, {0, "d", false, false}, {0, "", false, false}, {0, "d\x00", false, false},
		{1, "w", false, false}, {1, "x", true, true}, {1, "x\xff", true, true}, {1, strings.Repeat("\xff", 99), true, true}, {1, "", false, false},
		{2, "", true, false}, {2, "\xff", true, false},
		{3, "", true, true}, {3, "\x00", true, false}, {3, "a", true, false}, {3, "b", false, false},
		{4, "b", false, false}, {4, "c", false, false}, {4, "d", false, false}, {4, "e", false, false},
		{-1, "a", true, false}, {-1, "b", false, false}, {math.MaxInt, "a", true, true}, {math.MinInt, "a", false, false}, {5, "c", false, false}, {8, "", false, false},
	} {
		if read, write := prints.Covers(l, x.table, x.text, false), prints.Covers(l, x.table, x.text, true); read != x.read || write != x.write {
			t.Errorf("%d, %q: %t, %t; want %t, %t", x.table, x.text, read, write, x.read, x.write)
		}
	}
	for _, none := range [][]api.Lock{nil, {}} {
		if prints.Covers(none, 0, "", false) || prints.Covers(none, 0, "a", true) {
			t.Error("none covers")
		}
	}
}

// All lists of at most two locks of few texts, two tables.
func TestO2All(t *testing.T) {
	texts := []string{"", "\x00", "a", "a\x00", "b"}
	var locks []api.Lock
	for _, lo := range texts {
		for _, hi := range texts {
			for n := range 4 {
				locks = append(locks, api.Lock{Table: n / 2, Lo: lo, Hi: hi, Write: n%2 == 1})
			}
		}
	}
	within := func(x api.Lock, table int, text string, write bool) bool {
		if x.Table != table || write && !x.Write || strings.Compare(text, x.Lo) < 0 {
			return false
		}
		return len(x.Hi) == 0 || strings.Compare(text, x.Hi) < 0
	}
	mustCover := func(l ...api.Lock) {
		t.Helper()
		for table := range 3 {
			for _, text := range append(texts, "c") {
				for _, write := range []bool{false, true} {
					want := false
					for _, x := range l {
						want = want || within(x, table, text, write)
					}
					if prints.Covers(l, table, text, write) != want {
						t.Fatalf("%s: %d, %q, %t: %t", shown(l), table, text, write, !want)
					}
				}
			}
		}
	}
	mustCover()
	for _, x := range locks {
		mustCover(x)
		for _, y := range locks {
			mustCover(x, y)
		}
	}
}
