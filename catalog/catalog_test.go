package catalog_test

import (
	"encoding/hex"
	"math"
	"reflect"
	"strings"
	"testing"

	"unison/api"
	"unison/catalog"
)

// small is the chapter's table t.
func small() api.Table {
	return api.Table{
		Name:    "t",
		Columns: []api.Column{{Name: "id", Type: api.Int, NotNull: true}, {Name: "v", Type: api.Text}},
		Key:     []int{0},
		Indexes: []api.Index{{Name: "by_v", Columns: []int{1}}},
	}
}

// wide is a table of 12 columns, of which all but the last one are NotNull, with a key of three and two indexes.
func wide() api.Table {
	return api.Table{
		Name:    "wide",
		Columns: columns(12),
		Key:     []int{3, 0, 7},
		Part:    7,
		Indexes: []api.Index{{Name: "x", Columns: []int{11, 2, 3}}, {Name: "y", Columns: []int{0}, Unique: true}},
	}
}

// columns are some of all types; all but the last one are NotNull.
func columns(n int) []api.Column {
	var l []api.Column
	for i := range n {
		l = append(l, api.Column{Name: nth("c", i), Type: 1 + i%3, NotNull: i < n-1})
	}
	return l
}

// nth is a name that no other number has.
func nth(head string, i int) string { return head + string(rune('a'+i)) }

func places(n int) []int {
	var l []int
	for i := range n {
		l = append(l, i)
	}
	return l
}

func indexes(n int) []api.Index {
	var l []api.Index
	for i := range n {
		l = append(l, api.Index{Name: nth("i", i), Columns: []int{i}, Unique: i%2 == 1})
	}
	return l
}

func params(n int) []api.Param {
	var l []api.Param
	for i := range n {
		l = append(l, api.Param{Name: nth("p", i), Type: 1 + i%3})
	}
	return l
}

// put is a procedure with two parameters and two texts.
func put() api.Proc {
	return api.Proc{Name: "put", Params: params(2), Body: []string{"INSERT", "SELECT \xff"}, Rows: 3, Bytes: 200}
}

// tables and procs are some, no two of one name.
func tables(n int) []api.Table {
	var l []api.Table
	for i := range n {
		t := small()
		t.Name = nth("t", i)
		l = append(l, t)
	}
	return l
}

func procs(n int) []api.Proc {
	var l []api.Proc
	for i := range n {
		l = append(l, api.Proc{Name: nth("f", i), Body: []string{"x"}})
	}
	return l
}

func ofTable(t api.Table) api.Catalog { return api.Catalog{Tables: []api.Table{t}} }

func ofProc(p api.Proc) api.Catalog { return api.Catalog{Procs: []api.Proc{p}} }

// same tells whether two catalogs are; a nil list and an empty one are the same.
func same(a, b api.Catalog) bool { return reflect.DeepEqual(evened(a), evened(b)) }

// evened is a catalog of new lists, none of which is nil.
func evened(c api.Catalog) api.Catalog {
	even := api.Catalog{Tables: append([]api.Table{}, c.Tables...), Procs: append([]api.Proc{}, c.Procs...)}
	for i, t := range even.Tables {
		t.Columns = append([]api.Column{}, t.Columns...)
		t.Key = append([]int{}, t.Key...)
		t.Indexes = append([]api.Index{}, t.Indexes...)
		for j, x := range t.Indexes {
			t.Indexes[j].Columns = append([]int{}, x.Columns...)
		}
		even.Tables[i] = t
	}
	for i, p := range even.Procs {
		p.Params = append([]api.Param{}, p.Params...)
		p.Body = append([]string{}, p.Body...)
		even.Procs[i] = p
	}
	return even
}

// mustBeRight holds all that hangs on whether a catalog is right against what it is.
func mustBeRight(t *testing.T, what string, c api.Catalog, right bool) {
	t.Helper()
	if got := catalog.Right(c); got != right {
		t.Errorf("%s: Right = %t", what, got)
	}
	want := api.OK
	if !right {
		want = api.ErrCatalog
	}
	if s, e := catalog.Encode(c); e != want || (s == "") == right {
		t.Errorf("%s: Encode = %x, %d", what, s, e)
	}
	fresh := small()
	fresh.Name = "fresh"
	if more, e := catalog.AddTable(c, fresh); e != adding(want, len(c.Tables) == 8) || e != api.OK && !same(more, api.Catalog{}) {
		t.Errorf("%s: AddTable to it = %v, %d", what, more, e)
	}
	if more, e := catalog.AddProc(c, api.Proc{Name: "fresh", Body: []string{"x"}}); e != adding(want, len(c.Procs) == 16) || e != api.OK && !same(more, api.Catalog{}) {
		t.Errorf("%s: AddProc to it = %v, %d", what, more, e)
	}
}

// adding is the error of adding to a catalog that has itself some error, or none, and may be full.
func adding(e api.Errno, full bool) api.Errno {
	if e == api.OK && full {
		return api.ErrLong
	}
	return e
}

func mustMayBeTable(t *testing.T, what string, x api.Table, may bool) {
	t.Helper()
	mustBeRight(t, what, ofTable(x), may)
	mustBeRight(t, what+", as the last one", api.Catalog{Tables: append(tables(3), x)}, may)
	c, e := catalog.AddTable(api.Catalog{}, x)
	if may && (e != api.OK || !same(c, ofTable(x))) || !may && (e != api.ErrCatalog || !same(c, api.Catalog{})) {
		t.Errorf("%s: AddTable = %v, %d", what, c, e)
	}
}

func mustMayBeProc(t *testing.T, what string, p api.Proc, may bool) {
	t.Helper()
	mustBeRight(t, what, ofProc(p), may)
	mustBeRight(t, what+", as the last one", api.Catalog{Procs: append(procs(3), p)}, may)
	c, e := catalog.AddProc(api.Catalog{}, p)
	if may && (e != api.OK || !same(c, ofProc(p))) || !may && (e != api.ErrCatalog || !same(c, api.Catalog{})) {
		t.Errorf("%s: AddProc = %v, %d", what, c, e)
	}
}

// mustTakeNames asks of each place where a name stands whether it may be there.
func mustTakeNames(t *testing.T, name string, may bool) {
	t.Helper()
	x := wide()
	x.Name = name
	mustMayBeTable(t, "a table "+name, x, may)
	x = wide()
	x.Columns[5].Name = name
	mustMayBeTable(t, "a column "+name, x, may)
	x = wide()
	x.Indexes[1].Name = name
	mustMayBeTable(t, "an index "+name, x, may)
	p := put()
	p.Name = name
	mustMayBeProc(t, "a procedure "+name, p, may)
	p = put()
	p.Params[1].Name = name
	mustMayBeProc(t, "a parameter "+name, p, may)
}

func TestC1Names(t *testing.T) {
	long := "abcdefghij_01234"
	for _, name := range []string{"q", "z", "qq", "q0", "q9", "q_", "q__", "z9_az", long[:15], long} {
		mustTakeNames(t, name, true)
	}
	for _, name := range []string{"", "_", "_a", "0", "9a", "A", "aA", "Za", "a b", " a", "a ", "a-", "a.b", "é", "aé", "a\x00", "\x00", "a\xff", long + "5", long + long} {
		mustTakeNames(t, name, false)
	}
}

// Each byte stands first, and stands within a name.
func TestC1EachByteOfAName(t *testing.T) {
	for b := range 256 {
		letter := strings.IndexByte("abcdefghijklmnopqrstuvwxyz", byte(b)) >= 0
		within := letter || strings.IndexByte("0123456789_", byte(b)) >= 0
		mustTakeNames(t, string([]byte{byte(b), 'z'}), letter)
		mustTakeNames(t, string([]byte{'z', byte(b), 'z'}), within)
		mustTakeNames(t, string([]byte{'z', byte(b)}), within)
	}
}

func TestC1Types(t *testing.T) {
	for _, kind := range []int{api.Int, api.Bool, api.Text, api.Null, 4, -1, 257, math.MaxInt, math.MinInt} {
		may := kind == 1 || kind == 2 || kind == 3
		x := wide()
		x.Columns[0].Type = kind
		mustMayBeTable(t, "a column's type", x, may)
		p := put()
		p.Params[1].Type = kind
		mustMayBeProc(t, "a parameter's type", p, may)
	}
}

func TestC1HowManyColumns(t *testing.T) {
	for n := range 20 {
		x := small()
		x.Columns, x.Indexes = columns(n+1), nil
		x.Columns[n].NotNull = true
		mustMayBeTable(t, "some columns", x, n+1 <= 16)
	}
	mustMayBeTable(t, "no column", api.Table{Name: "t", Key: []int{0}}, false)
	mustMayBeTable(t, "no column, no key", api.Table{Name: "t"}, false)
	mustMayBeTable(t, "nothing", api.Table{}, false)
}

func TestC1Key(t *testing.T) {
	for _, c := range []struct {
		key  []int
		part int
		may  bool
	}{
		{places(8), 0, true}, {places(8), 7, true}, {places(9), 0, false}, {places(11), 3, false},
		{[]int{0}, 0, true}, {[]int{10}, 10, true}, {[]int{10, 9, 0}, 9, true}, {[]int{10, 9, 0}, 0, true},
		{nil, 0, false}, {[]int{}, 0, false},
		{[]int{0, 0}, 0, false}, {[]int{3, 4, 3}, 4, false}, {[]int{3, 4, 5, 6, 7, 8, 9, 9}, 4, false},
		{[]int{0, 11}, 0, false}, {[]int{11}, 11, false},
		{[]int{0, 12}, 0, false}, {[]int{12}, 12, false}, {[]int{-1, 0}, 0, false}, {[]int{-1}, -1, false}, {[]int{0, math.MaxInt}, 0, false}, {[]int{math.MinInt, 0}, 0, false},
		{[]int{1, 2}, 0, false}, {[]int{1, 2}, 3, false}, {[]int{1, 2}, 11, false}, {[]int{1, 2}, -1, false}, {[]int{1, 2}, 12, false}, {[]int{2, 3}, 1, false},
	} {
		x := wide()
		x.Key, x.Part = c.key, c.part
		mustMayBeTable(t, "a key", x, c.may)
	}
}

func TestC1Indexes(t *testing.T) {
	for n := range 7 {
		x := wide()
		x.Indexes = indexes(n)
		mustMayBeTable(t, "some indexes", x, n <= 4)
	}
	for _, c := range []struct {
		places []int
		may    bool
	}{
		{[]int{0}, true}, {[]int{11}, true}, {[]int{3, 0, 7}, true}, {[]int{11, 10, 9, 8, 7, 6, 5, 4}, true},
		{nil, false}, {[]int{}, false}, {places(9), false}, {[]int{1, 1}, false}, {[]int{1, 2, 1}, false},
		{[]int{12}, false}, {[]int{-1}, false}, {[]int{0, 12}, false}, {[]int{0, math.MinInt}, false}, {[]int{math.MaxInt}, false},
	} {
		for at := range 2 {
			for _, unique := range []bool{false, true} {
				x := wide()
				x.Indexes[at].Columns, x.Indexes[at].Unique = c.places, unique
				mustMayBeTable(t, "an index's places", x, c.may)
			}
		}
	}
}

func TestC1NamesTwice(t *testing.T) {
	x := wide()
	x.Columns[9].Name = x.Columns[4].Name
	mustMayBeTable(t, "two columns of one name", x, false)
	x = wide()
	x.Columns[11].Name = x.Columns[0].Name
	mustMayBeTable(t, "the first and the last column of one name", x, false)
	x = wide()
	x.Indexes[1].Name = "x"
	mustMayBeTable(t, "two indexes of one name", x, false)
	p := put()
	p.Params[1].Name = p.Params[0].Name
	mustMayBeProc(t, "two parameters of one name", p, false)
}

// Names of other kinds of things, and of other tables' or procedures' parts, are no concern.
func TestC1NamesOfOthers(t *testing.T) {
	x := wide()
	x.Indexes[0].Name, x.Columns[1].Name, x.Indexes[1].Name = x.Columns[0].Name, x.Name, x.Name
	mustMayBeTable(t, "an index and a column of one name", x, true)
	p := put()
	p.Params[0].Name = p.Name
	mustMayBeProc(t, "a parameter with the procedure's name", p, true)
	p.Name = x.Name
	other, q := x, p
	other.Name, q.Name = "other", "another"
	mustBeRight(t, "a table and a procedure of one name", api.Catalog{Tables: []api.Table{x, other}, Procs: []api.Proc{p, q}}, true)
}

func TestC1Procs(t *testing.T) {
	for n := range 12 {
		p := put()
		p.Params = params(n)
		mustMayBeProc(t, "some parameters", p, n <= 8)
		p = put()
		p.Body = strings.Split(strings.Repeat("x", n+1), "")
		mustMayBeProc(t, "some texts", p, n+1 <= 8)
	}
	p := put()
	p.Body = nil
	mustMayBeProc(t, "no text", p, false)
	for _, n := range []int{0, 1, 127, 128, 999, 1000, 1001, 2000} {
		for at := range 2 {
			p := put()
			p.Body[at] = strings.Repeat("\x00", n)
			mustMayBeProc(t, "a text's length", p, n >= 1 && n <= 1000)
		}
	}
	p.Body = strings.Split(strings.Repeat("x", 8), "")
	mustMayBeProc(t, "the same text eight times", p, true)
	mustMayBeProc(t, "nothing", api.Proc{}, false)
}

func TestC1Budgets(t *testing.T) {
	for _, n := range []int{0, 1, 127, 128, 16383, 16384, 1048575, 1048576, 1048577, -1, math.MaxInt, math.MinInt} {
		may := n >= 0 && n <= 1048576
		p := put()
		p.Rows = n
		mustMayBeProc(t, "Rows", p, may)
		p = put()
		p.Bytes = n
		mustMayBeProc(t, "Bytes", p, may)
		p.Rows = n
		mustMayBeProc(t, "Rows and Bytes", p, may)
	}
}

func TestC1Catalogs(t *testing.T) {
	for n := range 12 {
		mustBeRight(t, "some tables", api.Catalog{Tables: tables(n)}, n <= 8)
		mustBeRight(t, "some tables, 16 procedures", api.Catalog{Tables: tables(n), Procs: procs(16)}, n <= 8)
	}
	for n := range 20 {
		mustBeRight(t, "some procedures", api.Catalog{Procs: procs(n)}, n <= 16)
		mustBeRight(t, "some procedures, 8 tables", api.Catalog{Tables: tables(8), Procs: procs(n)}, n <= 16)
	}
	for at := 1; at < 8; at++ {
		c := api.Catalog{Tables: tables(8)}
		c.Tables[at].Name = c.Tables[at/2].Name
		mustBeRight(t, "two tables of one name", c, false)
	}
	for at := 1; at < 16; at++ {
		c := api.Catalog{Procs: procs(16)}
		c.Procs[at].Name = c.Procs[at/2].Name
		mustBeRight(t, "two procedures of one name", c, false)
	}
	mustBeRight(t, "nothing", api.Catalog{}, true)
	mustBeRight(t, "empty lists", api.Catalog{Tables: []api.Table{}, Procs: []api.Proc{}}, true)
}

func TestC2AddTable(t *testing.T) {
	c, want := api.Catalog{Procs: procs(2)}, api.Catalog{Procs: procs(2)}
	for i := range 8 {
		x := wide()
		x.Name = nth("t", i)
		more, e := catalog.AddTable(c, x)
		want.Tables = append(want.Tables, x)
		if e != api.OK || !same(more, want) {
			t.Fatalf("AddTable of the table %d = %v, %d", i, more, e)
		}
		c = more
		if more, e := catalog.AddTable(c, x); e != api.ErrTwice || !same(more, api.Catalog{}) {
			t.Errorf("AddTable of the table %d once more = %v, %d", i, more, e)
		}
		x = small()
		x.Name = "ta"
		if more, e := catalog.AddTable(c, x); e != api.ErrTwice || !same(more, api.Catalog{}) {
			t.Errorf("AddTable of another table ta, behind %d = %v, %d", i, more, e)
		}
	}
	if more, e := catalog.AddTable(c, small()); e != api.ErrLong || !same(more, api.Catalog{}) {
		t.Errorf("AddTable of a ninth table = %v, %d", more, e)
	}
	if more, e := catalog.AddTable(c, api.Table{Name: "ta"}); e != api.ErrCatalog || !same(more, api.Catalog{}) {
		t.Errorf("AddTable of a ninth table that may not be = %v, %d", more, e)
	}
}

func TestC2AddProc(t *testing.T) {
	c, want := api.Catalog{Tables: tables(2)}, api.Catalog{Tables: tables(2)}
	for i := range 16 {
		p := put()
		p.Name = nth("p", i)
		more, e := catalog.AddProc(c, p)
		want.Procs = append(want.Procs, p)
		if e != api.OK || !same(more, want) {
			t.Fatalf("AddProc of the procedure %d = %v, %d", i, more, e)
		}
		c = more
		if more, e := catalog.AddProc(c, p); e != api.ErrTwice || !same(more, api.Catalog{}) {
			t.Errorf("AddProc of the procedure %d once more = %v, %d", i, more, e)
		}
		if more, e := catalog.AddProc(c, api.Proc{Name: "pa", Body: []string{"y"}}); e != api.ErrTwice || !same(more, api.Catalog{}) {
			t.Errorf("AddProc of another procedure pa, behind %d = %v, %d", i, more, e)
		}
	}
	if more, e := catalog.AddProc(c, put()); e != api.ErrLong || !same(more, api.Catalog{}) {
		t.Errorf("AddProc of a 17th procedure = %v, %d", more, e)
	}
	if more, e := catalog.AddProc(c, api.Proc{Name: "pa"}); e != api.ErrCatalog || !same(more, api.Catalog{}) {
		t.Errorf("AddProc of a 17th procedure that may not be = %v, %d", more, e)
	}
}

// A catalog that is not right is told ahead of a name that is there, and of one that is too many.
func TestC2WrongCatalogs(t *testing.T) {
	for _, c := range []api.Catalog{
		{Tables: append(tables(8), tables(1)...), Procs: procs(16)},
		{Tables: append(tables(7), api.Table{Name: "q"}), Procs: procs(16)},
		{Tables: tables(8), Procs: append(procs(16), procs(1)...)},
		{Tables: tables(8), Procs: append(procs(15), api.Proc{Name: "q"})},
		{Tables: tables(1), Procs: append(procs(1), procs(1)...)},
		{Tables: append(tables(1), tables(1)...), Procs: procs(1)},
	} {
		for _, x := range append(tables(1), wide()) {
			if more, e := catalog.AddTable(c, x); e != api.ErrCatalog || !same(more, api.Catalog{}) {
				t.Errorf("AddTable of %s = %v, %d", x.Name, more, e)
			}
		}
		for _, p := range append(procs(1), put()) {
			if more, e := catalog.AddProc(c, p); e != api.ErrCatalog || !same(more, api.Catalog{}) {
				t.Errorf("AddProc of %s = %v, %d", p.Name, more, e)
			}
		}
	}
}

// What is full of the one kind has room for the other one; what has a name of the one kind has none of the other.
func TestC2KindsAreApart(t *testing.T) {
	c := api.Catalog{Tables: tables(8), Procs: procs(15)}
	p := procs(1)[0]
	p.Name = "ta"
	want := api.Catalog{Tables: tables(8), Procs: append(procs(15), p)}
	if more, e := catalog.AddProc(c, p); e != api.OK || !same(more, want) {
		t.Errorf("AddProc of ta = %v, %d", more, e)
	}
	c = api.Catalog{Tables: tables(7), Procs: procs(16)}
	x := small()
	x.Name = "fa"
	want = api.Catalog{Tables: append(tables(7), x), Procs: procs(16)}
	if more, e := catalog.AddTable(c, x); e != api.OK || !same(more, want) {
		t.Errorf("AddTable of fa = %v, %d", more, e)
	}
}

func mustFind(t *testing.T, what string, got int, e api.Errno, want int) {
	t.Helper()
	if want < 0 && (got != 0 || e != api.ErrNone) || want >= 0 && (got != want || e != api.OK) {
		t.Errorf("%s = %d, %d; want %d", what, got, e, want)
	}
}

func TestC3Places(t *testing.T) {
	c := api.Catalog{Tables: tables(8), Procs: procs(16)}
	x := small()
	x.Columns = columns(16)
	for i := range 16 {
		at, e := catalog.Proc(c, nth("f", i))
		mustFind(t, "Proc", at, e, i)
		at, e = catalog.Column(x, nth("c", i))
		mustFind(t, "Column", at, e, i)
		if i < 8 {
			at, e = catalog.Table(c, nth("t", i))
			mustFind(t, "Table", at, e, i)
		}
	}
	for _, name := range []string{"", "t", "f", "c", "z", "taa", "faa", "caa", "TA", "\xff", strings.Repeat("a", 99)} {
		at, e := catalog.Table(c, name)
		mustFind(t, "Table", at, e, -1)
		at, e = catalog.Proc(c, name)
		mustFind(t, "Proc", at, e, -1)
		at, e = catalog.Column(x, name)
		mustFind(t, "Column", at, e, -1)
	}
	at, e := catalog.Table(c, "fa")
	mustFind(t, "Table of a procedure's name", at, e, -1)
	at, e = catalog.Proc(c, "ta")
	mustFind(t, "Proc of a table's name", at, e, -1)
	at, e = catalog.Column(small(), "by_v")
	mustFind(t, "Column of an index's name", at, e, -1)
}

func TestC3OfNothing(t *testing.T) {
	for _, name := range []string{"", "a"} {
		at, e := catalog.Table(api.Catalog{}, name)
		mustFind(t, "Table", at, e, -1)
		at, e = catalog.Proc(api.Catalog{}, name)
		mustFind(t, "Proc", at, e, -1)
		at, e = catalog.Column(api.Table{}, name)
		mustFind(t, "Column", at, e, -1)
	}
}

// The first one counts, though the catalog be far from right, and the name be none.
func TestC3WhateverItIs(t *testing.T) {
	long := strings.Repeat("No Name", 9)
	var c api.Catalog
	var x api.Table
	for i := range 40 {
		name := []string{"a", "", long, "B"}[min(i/10, 3)]
		c.Tables = append(c.Tables, api.Table{Name: name})
		c.Procs = append(c.Procs, api.Proc{Name: name, Rows: -1})
		x.Columns = append(x.Columns, api.Column{Name: name})
	}
	for i, name := range []string{"a", "", long, "B", "b"} {
		want := i * 10
		if name == "b" {
			want = -1
		}
		at, e := catalog.Table(c, name)
		mustFind(t, "Table", at, e, want)
		at, e = catalog.Proc(c, name)
		mustFind(t, "Proc", at, e, want)
		at, e = catalog.Column(x, name)
		mustFind(t, "Column", at, e, want)
	}
}

// bytesOf reads hexadecimal digits, between which blanks may stand.
func bytesOf(t testing.TB, digits string) string {
	t.Helper()
	b, err := hex.DecodeString(strings.ReplaceAll(digits, " ", ""))
	if err != nil {
		t.Fatal(err)
	}
	return string(b)
}

// written are catalogs and the digits of their bytes, as the chapter's promise C4 has them.
func written() []struct {
	c      api.Catalog
	digits string
} {
	long := api.Proc{Name: "abcdefghijklmnop", Body: []string{strings.Repeat("x", 127), strings.Repeat("y", 128), strings.Repeat("z", 1000)}, Rows: 1 << 20, Bytes: 127}
	both := api.Table{Name: "b", Columns: []api.Column{{Name: "k", Type: api.Bool, NotNull: true}, {Name: "l", Type: api.Text, NotNull: true}}, Key: []int{1, 0}, Part: 1, Indexes: []api.Index{{Name: "i", Columns: []int{1, 0}, Unique: true}, {Name: "j", Columns: []int{0}}}}
	call := api.Proc{Name: "p", Params: []api.Param{{Name: "x", Type: api.Text}, {Name: "yy", Type: api.Int}}, Body: []string{"ab", "\x00"}, Rows: 128, Bytes: 300}
	return []struct {
		c      api.Catalog
		digits string
	}{
		{api.Catalog{}, "00 00"},
		{ofTable(small()), "01 0174 02 0269640101 01760300 01 00 00 01 0462795f76 00 01 01 00"},
		{ofProc(api.Proc{Name: "p", Body: []string{"x"}, Rows: 1, Bytes: 9}), "00 01 0170 00 01 0178 01 09"},
		{ofProc(call), "00 01 0170 02 017803 02797901 02 026162 0100 8001 ac02"},
		{ofProc(long), "00 01 10 6162636465666768696a6b6c6d6e6f70 00 03 7f" + strings.Repeat("78", 127) + "8001" + strings.Repeat("79", 128) + "e807" + strings.Repeat("7a", 1000) + "808040 7f"},
		{ofTable(both), "01 0162 02 016b0201 016c0301 02 0100 01 02 0169 01 020100 016a 00 0100 00"},
		{api.Catalog{Tables: []api.Table{both, small()}, Procs: []api.Proc{{Name: "q", Body: []string{"y"}}, call}}, "02" +
			"0162 02 016b0201 016c0301 02 0100 01 02 0169 01 020100 016a 00 0100" +
			"0174 02 0269640101 01760300 01 00 00 01 0462795f76 00 01 01" +
			"02 0171 00 01 0179 00 00" +
			"0170 02 017803 02797901 02 026162 0100 8001 ac02"},
	}
}

func TestC4Encode(t *testing.T) {
	for _, w := range written() {
		if s, e := catalog.Encode(w.c); s != bytesOf(t, w.digits) || e != api.OK {
			t.Errorf("Encode(%.200v) = %x, %d", w.c, s, e)
		}
	}
	mustBeRight(t, "empty lists within", ofProc(api.Proc{Name: "p", Params: []api.Param{}, Body: []string{"x"}}), true)
}

// noCatalogs are digits of bytes that Encode tells of no catalog; many are but one byte off.
func noCatalogs() []string {
	return []string{
		"", "00", "01", "000000", "0000ff", "8000 00", "00 8000", "8080", "80", "00 80", "0100", "0001", "08 00", "09 00",
		"0101", "0102", "0102 74", "01 e807", "01 0174 01", "01 0174 01 01", "01 0174 01 02 69", "0001 01", "0001 02 70", "0001 0170 01 01", "0001 0170 00 01 01", "0001 0170 00 01 02 78",
		"81808080808080808000 00", "80808080808080808080 01 00", "80808080808080808002 00", "ffffffffffffffffff01", "ffffffffffffffffffff01 00", "feffffffffffffffff01 00",
		"00 01 0170 00 01 0178 01", "00 01 0170 00 01 0178 01 09 00", "00 01 0170 00 00 01 09", "00 01 0170 00 01 00 01 09", "00 01 0150 00 01 0178 01 09", "00 01 00 00 01 0178 01 09",
		"00 01 0170 00 01 0178 818040 09", "00 01 0170 00 01 0178 01 818040", "00 01 0170 00 01 0178 8100 09", "00 01 0170 00 01 0178 01 8900", "00 01 8170 00 01 0178 01 09", "00 01 810070 00 01 0178 01 09",
		"00 01 0170 00 01 e907" + strings.Repeat("78", 1001) + "01 09", "00 01 0170 00 01 e807" + strings.Repeat("78", 999), "00 01 0170 00 01 ffffffffffffffffff01 78 01 09",
		"00 01 0170 01 017800 01 0178 01 09", "00 01 0170 01 017804 01 0178 01 09", "00 01 0170 02 017801 017801 01 0178 01 09", "00 01 0170 01 01780101 01 0178 01 09",
		"00 02 0170 00 01 0178 01 09 0170 00 01 0178 01 09", "00 02 0170 00 01 0178 01 09",
		"01 0174 02 0269640101 01760300 01 00 00 01 0462795f76 02 01 01 00", "01 0174 02 0269640101 01760302 01 00 00 01 0462795f76 00 01 01 00",
		"01 0174 02 0269640101 01760300 01 01 01 01 0462795f76 00 01 01 00", "01 0174 02 0269640101 01760300 01 00 01 01 0462795f76 00 01 01 00", "01 0174 02 0269640101 01760300 02 0000 00 00 00",
		"01 0174 02 0269640101 01760300 00 00 00 00", "01 0174 02 0269640101 01760300 01 02 02 00 00", "01 0174 00 00 00 00 00", "01 0174 02 0269640101 0269640300 01 00 00 00 00",
		"01 0174 02 0269640101 01760300 01 00 00 01 0462795f76 00 01 02 00", "01 0174 02 0269640101 01760300 01 00 00 01 0462795f76 00 02 0101 00", "01 0174 02 0269640101 01760300 01 00 00 01 0462795f76 00 00 00",
		"02 0174 01 0269640101 01 00 00 00 0174 01 0269640101 01 00 00 00 00",
	}
}

func TestC5DecodeOfNoCatalogs(t *testing.T) {
	for _, digits := range noCatalogs() {
		if c, e := catalog.Decode(bytesOf(t, digits)); e != api.ErrCatalog || len(c.Tables) != 0 || len(c.Procs) != 0 {
			t.Errorf("Decode(%.80s) = %v, %d", digits, c, e)
		}
	}
}

func TestC5Decode(t *testing.T) {
	for _, w := range written() {
		if c, e := catalog.Decode(bytesOf(t, w.digits)); !same(c, w.c) || e != api.OK {
			t.Errorf("Decode(%.80s) = %.200v, %d", w.digits, c, e)
		}
	}
}

// More of a thing than there may be is refused, though each one be right by itself; so is a text that says there be no end of them.
func TestC5TooMany(t *testing.T) {
	table, proc := "\x01t\x01\x01k\x01\x01\x01\x00\x00\x00", "\x01p\x00\x01\x01x\x00\x00"
	one := func(s string, i int) string { return s[:1] + nth("", i) + s[2:] }
	for n := 1; n < 20; n++ {
		manyTables, manyProcs := string(rune(n)), string(rune(n))
		for i := range n {
			manyTables += one(table, i)
			manyProcs += one(proc, i)
		}
		if c, e := catalog.Decode(manyTables + "\x00"); n <= 8 && (e != api.OK || len(c.Tables) != n) || n > 8 && (e != api.ErrCatalog || len(c.Tables) != 0) {
			t.Errorf("Decode of %d tables = %v, %d", n, c, e)
		}
		if c, e := catalog.Decode("\x00" + manyProcs); n <= 16 && (e != api.OK || len(c.Procs) != n) || n > 16 && (e != api.ErrCatalog || len(c.Procs) != 0) {
			t.Errorf("Decode of %d procedures = %v, %d", n, c, e)
		}
	}
	for _, fill := range []string{"\x00", "\x01", "\x7f", "\x80", "\xff", "\x01a"} {
		for _, head := range []string{"", "\x01\x01t", "\x00\x01", "\x01", "\x00"} {
			if c, e := catalog.Decode(head + strings.Repeat(fill, 1<<20)); e != api.ErrCatalog || !same(c, api.Catalog{}) {
				t.Errorf("Decode of %x and many times %x = %.200v, %d", head, fill, c, e)
			}
		}
	}
}

func TestExamples(t *testing.T) {
	for i, turn := range []func(x *api.Table){
		func(x *api.Table) { x.Key = nil },
		func(x *api.Table) { x.Key, x.Part = []int{1}, 1 },
		func(x *api.Table) { x.Part = 1 },
		func(x *api.Table) { x.Columns[1].Name = "V" },
		func(x *api.Table) { x.Columns[1].Name = "id" },
		func(x *api.Table) { x.Indexes[0].Columns = []int{1, 1} },
	} {
		x := small()
		if !catalog.Right(ofTable(x)) {
			t.Errorf("2: t is not right")
		}
		turn(&x)
		if catalog.Right(ofTable(x)) {
			t.Errorf("2: the turn %d leaves t right", i)
		}
	}
	c, e := catalog.AddTable(api.Catalog{}, small())
	if e != api.OK || !same(c, ofTable(small())) {
		t.Errorf("3: AddTable = %v, %d", c, e)
	}
	if _, e := catalog.AddTable(c, small()); e != api.ErrTwice {
		t.Errorf("3: AddTable once more: %d", e)
	}
	if _, e := catalog.AddProc(api.Catalog{}, api.Proc{Name: "p"}); e != api.ErrCatalog {
		t.Errorf("3: AddProc without a text: %d", e)
	}
	if _, e := catalog.AddProc(api.Catalog{}, api.Proc{Name: "p", Body: []string{"x"}, Rows: 1, Bytes: 9}); e != api.OK {
		t.Errorf("3: AddProc: %d", e)
	}
	at, e := catalog.Table(c, "t")
	mustFind(t, "4: Table of t", at, e, 0)
	at, e = catalog.Table(c, "u")
	mustFind(t, "4: Table of u", at, e, -1)
	at, e = catalog.Column(small(), "v")
	mustFind(t, "4: Column of v", at, e, 1)
}
