package table_test

import (
	"hash/crc32"
	"math"
	"reflect"
	"slices"
	"strings"
	"testing"

	"unison/api"
	"unison/key"
	"unison/row"
	"unison/table"
)

type rows = [][]api.Value

var null = api.Value{}

func num(n int) api.Value { return api.Value{Kind: api.Int, Int: n} }

func text(s string) api.Value { return api.Value{Kind: api.Text, Text: s} }

func truth(n int) api.Value { return api.Value{Kind: api.Bool, Int: n} }

func of(l ...api.Value) []api.Value { return l }

// small is the chapter's table t, whose index is Unique.
func small() api.Table {
	return api.Table{
		Name:    "t",
		Columns: []api.Column{{Name: "id", Type: api.Int, NotNull: true}, {Name: "v", Type: api.Text}},
		Key:     []int{0},
		Indexes: []api.Index{{Name: "by_v", Columns: []int{1}, Unique: true}},
	}
}

// wide is a table of all types, whose key is b and a, in this order, and is parted by a.
func wide() api.Table {
	return api.Table{
		Name: "wide",
		Columns: []api.Column{
			{Name: "a", Type: api.Int, NotNull: true},
			{Name: "b", Type: api.Text, NotNull: true},
			{Name: "c", Type: api.Bool},
			{Name: "d", Type: api.Int},
			{Name: "e", Type: api.Text, NotNull: true},
		},
		Key:  []int{1, 0},
		Part: 0,
		Indexes: []api.Index{
			{Name: "by_d", Columns: []int{3}},
			{Name: "by_ed", Columns: []int{4, 3}, Unique: true},
			{Name: "by_cb", Columns: []int{2, 1}},
			{Name: "by_ca", Columns: []int{2, 0}, Unique: true},
		},
	}
}

// full has as many columns, parts of a key, indexes and parts of an index as may be; its third index is Unique.
func full() api.Table {
	f := api.Table{Name: "full", Key: []int{7, 6, 5, 4, 3, 2, 1, 0}, Part: 3}
	for i := range api.MaxColumns {
		f.Columns = append(f.Columns, api.Column{Name: string(rune('a' + i)), Type: api.Text, NotNull: i < 8})
	}
	for i := range api.MaxIndexes {
		x := api.Index{Name: string(rune('a' + i)), Unique: i == 2}
		for j := range api.MaxParts {
			x.Columns = append(x.Columns, (3*i+j)%16)
		}
		f.Indexes = append(f.Indexes, x)
	}
	return f
}

func ofTables(l ...api.Table) api.Catalog { return api.Catalog{Tables: l} }

// some is a catalog of three tables and a procedure.
func some() api.Catalog {
	c := ofTables(small(), wide(), full())
	c.Procs = []api.Proc{{Name: "p", Params: []api.Param{{Name: "k", Type: api.Int}}, Body: []string{"SELECT", "x"}, Rows: 3, Bytes: 9}}
	return c
}

func mustNew(t testing.TB, c api.Catalog, parts int) *table.Store {
	t.Helper()
	s, e := table.New(c, parts)
	if s == nil || e != api.OK {
		t.Fatalf("New(%v, %d) = %v, %d", c, parts, s, e)
	}
	return s
}

// mustChange holds a change's error against the one that is asked for.
func mustChange(t testing.TB, w *table.Work, place int, out, in rows, want api.Errno) {
	t.Helper()
	if e := w.Change(place, out, in); e != want {
		t.Errorf("Change(%d, %v, %v) = %d; want %d", place, out, in, e, want)
	}
}

// mustHave holds a store's rows against those that are asked for, table by table.
func mustHave(t testing.TB, s *table.Store, want ...rows) {
	t.Helper()
	got := s.State()
	if len(got.Tables) != len(want) {
		t.Errorf("State has %d tables; want %d", len(got.Tables), len(want))
		return
	}
	for i, l := range want {
		mustTell(t, "State", got.Tables[i], l)
	}
}

func mustTell(t testing.TB, what string, got, want rows) {
	t.Helper()
	if !same(got, want) {
		t.Errorf("%s: %v; want %v", what, got, want)
	}
}

// same tells whether rows are, in their order; a nil list and an empty one are the same.
func same(a, b rows) bool { return slices.EqualFunc(a, b, slices.Equal) }

// sameCatalog tells whether catalogs are, of which none has an empty list that is not nil.
func sameCatalog(a, b api.Catalog) bool { return reflect.DeepEqual(a, b) }

// inEach runs a test in every number of partitions.
func inEach(t *testing.T, run func(t *testing.T, parts int)) {
	t.Helper()
	for parts := 1; parts <= api.MaxPartitions; parts++ {
		run(t, parts)
		if t.Failed() {
			t.Fatalf("in %d partitions", parts)
		}
	}
}

// mustKey is the bytes of a key.
func mustKey(t testing.TB, l ...api.Value) string {
	t.Helper()
	s, e := key.Encode(l...)
	if e != api.OK {
		t.Fatalf("key.Encode(%v): %d", l, e)
	}
	return s
}

// in tells the values of a row in some columns.
func in(r []api.Value, columns []int) []api.Value {
	var l []api.Value
	for _, c := range columns {
		l = append(l, r[c])
	}
	return l
}

// sortKey is a row's by an index, as the chapter words it.
func sortKey(t testing.TB, def api.Table, index int, r []api.Value) string {
	t.Helper()
	name := mustKey(t, in(r, def.Key)...)
	if index == -1 {
		return name
	}
	return mustKey(t, in(r, def.Indexes[index].Columns)...) + name
}

// someWide are rows that may stand in the table wide, by rising keys.
func someWide() rows {
	return rows{
		of(num(7), text(""), null, num(1), text("x")),
		of(num(-3), text("\x00"), truth(1), num(-1), text("x")),
		of(num(9), text("\x00\x00"), truth(1), null, text("x")),
		of(num(-api.MaxInt), text("a"), truth(0), num(5), text("y")),
		of(num(-1), text("a"), truth(0), null, text("x")),
		of(num(0), text("a"), null, num(0), text("")),
		of(num(2), text("a"), truth(1), num(5), text("z")),
		of(num(10), text("a"), truth(1), num(api.MaxInt), text("z")),
		of(num(api.MaxInt), text("a"), null, num(5), text("x")),
		of(num(2), text("ab"), null, num(-api.MaxInt), text("x")),
		of(num(2), text("b"), truth(0), num(6), text("z")),
		of(num(1), text(strings.Repeat("\xff", 64)), truth(1), null, text("x")),
	}
}

// scrambled is a list in another order, a different one for each number.
func scrambled(l rows, n int) rows {
	out := slices.Clone(l)
	for i := range out {
		j := (i*i*7 + i*n + n) % len(out)
		out[i], out[j] = out[j], out[i]
	}
	return out
}

func TestS1New(t *testing.T) {
	for _, c := range []api.Catalog{{}, ofTables(small()), ofTables(wide()), ofTables(full()), some(), {Procs: some().Procs}} {
		inEach(t, func(t *testing.T, parts int) {
			s := mustNew(t, c, parts)
			if got := s.Catalog(); !sameCatalog(got, c) {
				t.Errorf("Catalog() = %v; want %v", got, c)
			}
			if got := s.Parts(); got != parts {
				t.Errorf("Parts() = %d; want %d", got, parts)
			}
			mustHave(t, s, make([]rows, len(c.Tables))...)
		})
	}
}

func TestS1FullCatalog(t *testing.T) {
	var c api.Catalog
	for i := range api.MaxTables {
		x := full()
		x.Name = string(rune('a' + i))
		c.Tables = append(c.Tables, x)
	}
	s := mustNew(t, c, 16)
	mustHave(t, s, make([]rows, 8)...)
	w := s.Begin()
	var r []api.Value
	for i := range 16 {
		r = append(r, text(strings.Repeat(string(rune('a'+i)), 64)))
	}
	want := make([]rows, 8)
	for i := range 8 {
		mustChange(t, w, i, nil, rows{r}, api.OK)
		want[i] = rows{r}
		for index := -1; index < 4; index++ {
			mustTell(t, "Scan", w.Scan(i, index, "", ""), rows{r})
		}
	}
	mustHave(t, s, want...)
}

func TestS1Wrong(t *testing.T) {
	noKey := small()
	noKey.Key = nil
	for _, c := range []struct {
		c     api.Catalog
		parts int
		want  api.Errno
	}{
		{some(), 0, api.ErrArg},
		{some(), 17, api.ErrArg},
		{some(), -1, api.ErrArg},
		{some(), math.MinInt, api.ErrArg},
		{some(), math.MaxInt, api.ErrArg},
		{api.Catalog{}, 0, api.ErrArg},
		{ofTables(noKey), 1, api.ErrCatalog},
		{ofTables(noKey), 16, api.ErrCatalog},
		{ofTables(noKey), 0, api.ErrCatalog},
		{ofTables(noKey), 17, api.ErrCatalog},
		{ofTables(small(), small()), 2, api.ErrCatalog},
		{ofTables(small(), noKey), 2, api.ErrCatalog},
		{api.Catalog{Procs: []api.Proc{{Name: "p"}}}, 2, api.ErrCatalog},
	} {
		if s, e := table.New(c.c, c.parts); s != nil || e != c.want {
			t.Errorf("New(%v, %d) = %v, %d; want %d", c.c, c.parts, s, e, c.want)
		}
	}
}

func TestS2StateByRisingKeys(t *testing.T) {
	want := someWide()
	inEach(t, func(t *testing.T, parts int) {
		s := mustNew(t, some(), parts)
		mustChange(t, s.Begin(), 1, nil, scrambled(want, parts), api.OK)
		mustHave(t, s, nil, want, nil)
		s = mustNew(t, some(), parts)
		for _, r := range scrambled(want, parts+1) {
			mustChange(t, s.Begin(), 1, nil, rows{r}, api.OK)
		}
		mustHave(t, s, nil, want, nil)
	})
}

func TestS2ManyRows(t *testing.T) {
	var want rows
	for i := range 3000 {
		want = append(want, of(num(i-1500), null))
	}
	for _, parts := range []int{1, 7, 16} {
		s := mustNew(t, ofTables(small()), parts)
		w := s.Begin()
		for i := range want {
			mustChange(t, w, 0, nil, rows{want[i*7%3000]}, api.OK)
		}
		mustHave(t, s, want)
		mustTell(t, "Scan", w.Scan(0, 0, "", ""), want)
	}
}

func TestS3Load(t *testing.T) {
	want := someWide()
	inEach(t, func(t *testing.T, parts int) {
		s := mustNew(t, some(), parts)
		w := s.Begin()
		mustChange(t, w, 0, nil, rows{of(num(1), null), of(num(5), text("a"))}, api.OK)
		x := api.State{Tables: []rows{{of(num(9), text("a")), of(num(-9), null), of(num(1), null)}, scrambled(want, parts), nil}}
		if e := s.Load(x); e != api.OK {
			t.Errorf("Load: %d", e)
		}
		mustHave(t, s, rows{of(num(-9), null), of(num(1), null), of(num(9), text("a"))}, want, nil)
		// The indexes are those of the new rows alone.
		w = s.Begin()
		mustTell(t, "Scan", w.Scan(0, 0, "", ""), rows{of(num(-9), null), of(num(1), null), of(num(9), text("a"))})
		mustChange(t, w, 0, nil, rows{of(num(5), text("a"))}, api.ErrUnique)
		if _, ok := w.Get(0, num(5)); ok {
			t.Errorf("the row 5 is there")
		}
		if e := s.Load(s.State()); e != api.OK {
			t.Errorf("Load of State: %d", e)
		}
		mustHave(t, s, rows{of(num(-9), null), of(num(1), null), of(num(9), text("a"))}, want, nil)
		if e := s.Load(api.State{Tables: make([]rows, 3)}); e != api.OK {
			t.Errorf("Load of no rows: %d", e)
		}
		mustHave(t, s, nil, nil, nil)
	})
}

func TestS3LoadWrong(t *testing.T) {
	misfit, lacks := rows{of(num(1))}, rows{of(null, null)}
	twice := rows{of(num(1), null), of(num(1), text("a"))}
	meet := rows{of(num(1), text("a")), of(num(3), null), of(num(2), text("a"))}
	right := rows{of(num(4), null)}
	c := ofTables(small(), small(), small())
	c.Tables[1].Name, c.Tables[2].Name = "u", "v"
	for i, x := range []struct {
		l    []rows
		want api.Errno
	}{
		{nil, api.ErrArg},
		{[]rows{right, right}, api.ErrArg},
		{[]rows{right, right, right, nil}, api.ErrArg},
		{[]rows{lacks, twice}, api.ErrArg},
		{[]rows{lacks, twice, meet, meet}, api.ErrArg},
		{[]rows{misfit, right, right}, api.ErrArg},
		{[]rows{right, right, misfit}, api.ErrArg},
		{[]rows{right, lacks, right}, api.ErrNotNull},
		{[]rows{right, twice, right}, api.ErrUnique},
		{[]rows{right, right, meet}, api.ErrUnique},
		// The first table counts, whatever is wrong with those behind it.
		{[]rows{right, meet, misfit}, api.ErrUnique},
		{[]rows{twice, lacks, misfit}, api.ErrUnique},
		{[]rows{lacks, misfit, twice}, api.ErrNotNull},
		{[]rows{misfit, lacks, twice}, api.ErrArg},
		// Of one table, whichever row has what is named first.
		{[]rows{slices.Concat(twice, meet, lacks, misfit), right, right}, api.ErrArg},
		{[]rows{slices.Concat(misfit, lacks, meet), right, right}, api.ErrArg},
		{[]rows{slices.Concat(twice, lacks, right), right, right}, api.ErrNotNull},
		{[]rows{slices.Concat(lacks, meet, twice), right, right}, api.ErrNotNull},
		{[]rows{slices.Concat(lacks, lacks), right, right}, api.ErrNotNull},
	} {
		for _, parts := range []int{1, 2, 16} {
			s := mustNew(t, c, parts)
			w := s.Begin()
			old := rows{of(num(1), text("z"))}
			mustChange(t, w, 1, nil, old, api.OK)
			if e := s.Load(api.State{Tables: x.l}); e != x.want {
				t.Errorf("%d: Load = %d; want %d", i, e, x.want)
			}
			mustHave(t, s, nil, old, nil)
			if w.Over() {
				t.Errorf("%d: the work is over", i)
			}
			w.Undo()
			mustHave(t, s, nil, nil, nil)
		}
	}
}

func TestS3LoadEndsWorks(t *testing.T) {
	s := mustNew(t, ofTables(small()), 3)
	first, second := s.Begin(), s.Begin()
	mustChange(t, first, 0, nil, rows{of(num(1), text("a"))}, api.OK)
	mustChange(t, second, 0, rows{of(num(1), text("a"))}, rows{of(num(2), text("b"))}, api.OK)
	want := rows{of(num(2), null)}
	if e := s.Load(api.State{Tables: []rows{want}}); e != api.OK || !first.Over() || !second.Over() {
		t.Fatalf("Load = %d, Over %t, %t", e, first.Over(), second.Over())
	}
	third := s.Begin()
	if third.Over() {
		t.Errorf("a work that was begun behind the load is over")
	}
	for _, w := range []*table.Work{first, second} {
		mustChange(t, w, 0, nil, rows{of(num(9), null)}, api.ErrArg)
		if r, ok := w.Get(0, num(2)); ok || len(r) != 0 {
			t.Errorf("Get of a work that is over: %v, %t", r, ok)
		}
		mustTell(t, "Scan of a work that is over", w.Scan(0, -1, "", ""), nil)
		if !sameCatalog(w.Catalog(), s.Catalog()) {
			t.Errorf("Catalog of a work that is over: %v", w.Catalog())
		}
		w.Undo()
		w.Done()
		if !w.Over() {
			t.Errorf("a work that was over is not")
		}
		mustHave(t, s, want)
	}
	mustChange(t, third, 0, nil, rows{of(num(1), text("a"))}, api.OK)
	if e := s.Load(s.State()); e != api.OK || !third.Over() {
		t.Errorf("Load of the same rows: %d, Over %t", e, third.Over())
	}
}

func TestS3LoadOfNoTables(t *testing.T) {
	s := mustNew(t, api.Catalog{}, 2)
	w := s.Begin()
	if e := s.Load(api.State{Tables: make([]rows, 1)}); e != api.ErrArg || w.Over() {
		t.Errorf("Load of a table: %d, Over %t", e, w.Over())
	}
	if e := s.Load(api.State{}); e != api.OK || !w.Over() {
		t.Errorf("Load of none: %d, Over %t", e, w.Over())
	}
}

// digest is that of rows, by the library's sum and whole numbers.
func digest(l rows) (re, im int) {
	for _, r := range l {
		s, _ := row.Encode(r...)
		sum := int(crc32.ChecksumIEEE([]byte(s)))
		re, im = re+sum%65536, im+sum/65536
	}
	return re, im
}

func mustDigest(t testing.TB, s *table.Store, place int, l rows) {
	t.Helper()
	wantRe, wantIm := digest(l)
	if re, im := s.Digest(place); re != wantRe || im != wantIm {
		t.Errorf("Digest(%d) = %d, %d; want %d, %d", place, re, im, wantRe, wantIm)
	}
}

func TestS4Digest(t *testing.T) {
	inEach(t, func(t *testing.T, parts int) {
		s := mustNew(t, some(), parts)
		w := s.Begin()
		var there rows
		for _, r := range scrambled(someWide(), parts) {
			mustDigest(t, s, 1, there)
			mustChange(t, w, 1, nil, rows{r}, api.OK)
			there = append(there, r)
			mustDigest(t, s, 1, there)
		}
		mustChange(t, w, 0, nil, rows{of(num(1), null)}, api.OK)
		mustDigest(t, s, 0, rows{of(num(1), null)})
		mustDigest(t, s, 1, there)
		mustChange(t, w, 1, there[2:5], nil, api.OK)
		mustDigest(t, s, 1, slices.Concat(there[:2], there[5:]))
		w.Undo()
		for place := range 3 {
			mustDigest(t, s, place, nil)
		}
	})
}

func TestS4TheHalvesOfASum(t *testing.T) {
	s := mustNew(t, ofTables(small()), 1)
	mustChange(t, s.Begin(), 0, nil, rows{of(num(1), null)}, api.OK)
	sum := int(crc32.ChecksumIEEE([]byte("\x02\x01\x02")))
	if re, im := s.Digest(0); re != sum&0xffff || im != sum>>16 {
		t.Errorf("Digest = %x, %x; want those of %x", re, im, sum)
	}
}

// Many rows come to more than 16 bits, and nothing falls out.
func TestS4ManyRows(t *testing.T) {
	var l rows
	for i := range 5000 {
		l = append(l, of(num(i), null))
	}
	s := mustNew(t, ofTables(small()), 9)
	mustChange(t, s.Begin(), 0, nil, l, api.OK)
	mustDigest(t, s, 0, l)
	if re, im := s.Digest(0); re < 1<<26 || im < 1<<26 {
		t.Errorf("Digest = %d, %d", re, im)
	}
}

func TestS4NoSuchTable(t *testing.T) {
	s := mustNew(t, some(), 2)
	mustChange(t, s.Begin(), 0, nil, rows{of(num(1), null)}, api.OK)
	mustChange(t, s.Begin(), 1, nil, someWide(), api.OK)
	for _, place := range []int{-1, 3, 4, math.MinInt, math.MaxInt} {
		if re, im := s.Digest(place); re != 0 || im != 0 {
			t.Errorf("Digest(%d) = %d, %d", place, re, im)
		}
	}
	mustDigest(t, s, 2, nil)
}

func TestS5Begin(t *testing.T) {
	s := mustNew(t, some(), 4)
	first, second := s.Begin(), s.Begin()
	if first.Over() || second.Over() {
		t.Errorf("a new work is over")
	}
	if !sameCatalog(first.Catalog(), some()) {
		t.Errorf("Catalog() = %v", first.Catalog())
	}
	// Each sees what the other one changed, and what it took back.
	r := of(num(1), text("a"))
	mustChange(t, first, 0, nil, rows{r}, api.OK)
	if got, ok := second.Get(0, num(1)); !ok || !slices.Equal(got, r) {
		t.Errorf("Get = %v, %t", got, ok)
	}
	mustTell(t, "Scan", second.Scan(0, 0, "", ""), rows{r})
	changed := of(num(1), text("b"))
	mustChange(t, second, 0, rows{r}, rows{changed}, api.OK)
	mustTell(t, "Scan", first.Scan(0, -1, "", ""), rows{changed})
	second.Undo()
	mustTell(t, "Scan", first.Scan(0, -1, "", ""), rows{r})
	if first.Over() || !second.Over() {
		t.Errorf("Over: %t, %t", first.Over(), second.Over())
	}
	first.Done()
	if !first.Over() || !sameCatalog(first.Catalog(), some()) {
		t.Errorf("behind Done: Over %t, Catalog %v", first.Over(), first.Catalog())
	}
}

func TestS6Get(t *testing.T) {
	inEach(t, func(t *testing.T, parts int) {
		s := mustNew(t, some(), parts)
		w := s.Begin()
		mustChange(t, w, 1, nil, someWide(), api.OK)
		for _, r := range someWide() {
			// The values are those of Key in its order, which is not the columns'.
			if got, ok := w.Get(1, r[1], r[0]); !ok || !slices.Equal(got, r) {
				t.Errorf("Get(%v, %v) = %v, %t", r[1], r[0], got, ok)
			}
			mustGetNone(t, w, 1, r[0], r[1])
			mustGetNone(t, w, 0, r[1], r[0])
			mustGetNone(t, w, 2, r[1], r[0])
			mustGetNone(t, w, 1, r[1])
			mustGetNone(t, w, 1, r[0])
			mustGetNone(t, w, 1, r[1], r[0], r[2])
		}
	})
}

func mustGetNone(t testing.TB, w *table.Work, place int, l ...api.Value) {
	t.Helper()
	if r, ok := w.Get(place, l...); ok || len(r) != 0 {
		t.Errorf("Get(%d, %v) = %v, %t", place, l, r, ok)
	}
}

func TestS6GetNone(t *testing.T) {
	for _, parts := range []int{1, 2, 5, 16} {
		s := mustNew(t, some(), parts)
		w := s.Begin()
		mustChange(t, w, 0, nil, rows{of(num(0), text("a")), of(num(1), null)}, api.OK)
		mustChange(t, w, 1, nil, someWide(), api.OK)
		for _, l := range [][]api.Value{
			nil,
			of(num(2)),
			of(num(-1)),
			of(null),
			of(truth(1)),
			of(truth(0)),
			of(text("")),
			of(text("a")),
			of(num(1), num(1)),
			of(num(1), null),
			of(num(0), text("a")),
			of(null, num(1)),
			// Values that are not right.
			of(api.Value{Kind: api.Int, Int: 1, Text: "x"}),
			of(num(api.MaxInt + 1)),
			of(num(-api.MaxInt - 1)),
			of(num(math.MinInt)),
			of(api.Value{Kind: 4, Int: 1}),
			of(api.Value{Kind: -1}),
			of(api.Value{Kind: api.Null, Int: 1}),
			of(truth(2)),
			of(text(strings.Repeat("x", 65))),
			slices.Repeat(of(num(1)), 8),
			slices.Repeat(of(num(1)), 9),
			slices.Repeat(of(num(1)), 99),
		} {
			for _, place := range []int{0, 1, 2} {
				mustGetNone(t, w, place, l...)
			}
		}
		for _, place := range []int{-1, 3, math.MinInt, math.MaxInt} {
			mustGetNone(t, w, place, num(1))
		}
		w.Done()
		mustGetNone(t, w, 0, num(1))
	}
}

// sorted is rows by rising sort keys of an index.
func sorted(t testing.TB, def api.Table, index int, l rows) rows {
	t.Helper()
	out := slices.Clone(l)
	slices.SortFunc(out, func(a, b []api.Value) int {
		return strings.Compare(sortKey(t, def, index, a), sortKey(t, def, index, b))
	})
	return out
}

func TestS7ScanByEachIndex(t *testing.T) {
	inEach(t, func(t *testing.T, parts int) {
		s := mustNew(t, some(), parts)
		w := s.Begin()
		mustChange(t, w, 1, nil, scrambled(someWide(), parts), api.OK)
		for index := -1; index < 4; index++ {
			mustTell(t, "Scan", w.Scan(1, index, "", ""), sorted(t, wide(), index, someWide()))
		}
	})
}

// The rows of an index of one column: NULL ahead of numbers, and those of one value by their keys.
func TestS7RowsOfOneValue(t *testing.T) {
	s := mustNew(t, some(), 5)
	w := s.Begin()
	l := someWide()
	mustChange(t, w, 1, nil, l, api.OK)
	mustTell(t, "Scan by d", w.Scan(1, 0, "", ""), rows{l[2], l[4], l[11], l[9], l[1], l[5], l[0], l[3], l[6], l[8], l[10], l[7]})
	five := mustKey(t, num(5))
	next, _ := key.Next(five)
	mustTell(t, "Scan of d = 5", w.Scan(1, 0, five, next), rows{l[3], l[6], l[8]})
	mustTell(t, "Scan of d from 5 on", w.Scan(1, 0, five, ""), rows{l[3], l[6], l[8], l[10], l[7]})
	mustTell(t, "Scan of d below 5", w.Scan(1, 0, "", five), rows{l[2], l[4], l[11], l[9], l[1], l[5], l[0]})
	mustTell(t, "Scan of d that is NULL", w.Scan(1, 0, "\x01", "\x02"), rows{l[2], l[4], l[11]})
}

func TestS7AllBounds(t *testing.T) {
	for _, parts := range []int{1, 3, 16} {
		s := mustNew(t, some(), parts)
		w := s.Begin()
		mustChange(t, w, 1, nil, someWide(), api.OK)
		for index := -1; index < 4; index++ {
			all := sorted(t, wide(), index, someWide())
			// Each sort key, a beginning of it, the least text above it, and texts beyond all.
			bounds := []string{"", "\x00", "\xff", "\x05", "\x01", "\x02", "\x03", "\x04"}
			for _, r := range all {
				s := sortKey(t, wide(), index, r)
				bounds = append(bounds, s, s+"\x00", s[:len(s)-1], s[:len(s)/2])
			}
			for _, lo := range bounds {
				for _, hi := range bounds {
					var want rows
					for _, r := range all {
						if s := sortKey(t, wide(), index, r); s >= lo && (hi == "" || s < hi) {
							want = append(want, r)
						}
					}
					if got := w.Scan(1, index, lo, hi); !same(got, want) {
						t.Fatalf("Scan(1, %d, %x, %x) = %v; want %v", index, lo, hi, got, want)
					}
				}
			}
		}
	}
}

func TestS7ScanNone(t *testing.T) {
	s := mustNew(t, some(), 3)
	w := s.Begin()
	mustTell(t, "Scan of no rows", w.Scan(1, -1, "", ""), nil)
	mustTell(t, "Scan of no rows", w.Scan(1, 3, "", ""), nil)
	mustChange(t, w, 0, nil, rows{of(num(1), null)}, api.OK)
	mustChange(t, w, 1, nil, someWide(), api.OK)
	for _, c := range [][2]int{{-1, -1}, {3, -1}, {math.MinInt, 0}, {math.MaxInt, 0}, {0, 1}, {0, -2}, {1, 4}, {1, -2}, {1, math.MinInt}, {1, math.MaxInt}, {2, 4}} {
		mustTell(t, "Scan of none", w.Scan(c[0], c[1], "", ""), nil)
	}
	mustTell(t, "Scan", w.Scan(0, 0, "", ""), rows{of(num(1), null)})
	w.Done()
	mustTell(t, "Scan of a work that is over", w.Scan(0, 0, "", ""), nil)
	mustTell(t, "Scan of a work that is over", w.Scan(0, -1, "", ""), nil)
}
