package sched_test

import (
	"fmt"
	"math"
	"reflect"
	"slices"
	"strings"
	"testing"

	"unison/api"
	"unison/proc"
	"unison/sched"
	"unison/table"
	"unison/value"
)

// columns are some, each written as its name, with ! if it is NotNull, and the first letter of its type.
func columns(l ...string) []api.Column {
	var out []api.Column
	for _, s := range l {
		name, kind, _ := strings.Cut(s, " ")
		plain := strings.TrimSuffix(name, "!")
		out = append(out, api.Column{Name: plain, Type: strings.Index(" IBT", kind), NotNull: plain != name})
	}
	return out
}

func params(l ...string) []api.Param {
	var out []api.Param
	for _, c := range columns(l...) {
		out = append(out, api.Param{Name: c.Name, Type: c.Type})
	}
	return out
}

// chapter is chapter 17's catalog.
func chapter() api.Catalog {
	return api.Catalog{
		Tables: []api.Table{{Name: "t", Columns: columns("a! I", "b I"), Key: []int{0}}},
		Procs: []api.Proc{
			{Name: "put", Params: params("k I", "v I"), Body: []string{"INSERT INTO t VALUES (:k, :v)"}, Rows: 10, Bytes: 100},
			{Name: "move", Params: params("k I", "l I"), Body: []string{"UPDATE t SET b = b - 1 WHERE a = :k", "UPDATE t SET b = b + 1 WHERE a = :l", "SELECT b FROM t WHERE a = :k OR a = :l"}, Rows: 10, Bytes: 100},
			{Name: "few", Body: []string{"SELECT a FROM t"}, Rows: 1, Bytes: 100},
		},
	}
}

// wide is a catalog of two tables, the second of which has an index of each kind.
func wide() api.Catalog {
	p := func(name, l string, body ...string) api.Proc {
		x := api.Proc{Name: name, Body: body, Rows: 4, Bytes: 100}
		for word := range strings.FieldsSeq(l) {
			x.Params = append(x.Params, params(word+" I")...)
		}
		return x
	}
	return api.Catalog{
		Tables: []api.Table{
			{Name: "t", Columns: columns("a! I", "b I"), Key: []int{0}},
			{Name: "u", Columns: columns("c! I", "d I", "e I"), Key: []int{0}, Indexes: []api.Index{{Name: "x", Columns: []int{1}, Unique: true}, {Name: "y", Columns: []int{2}}}},
		},
		Procs: []api.Proc{
			p("put", "k v", "INSERT INTO t VALUES (:k, :v)"),
			p("get", "k l", "SELECT b FROM t WHERE a = :k", "SELECT b FROM t WHERE a = :l"),
			p("pay", "k l", "UPDATE t SET b = b - 1 WHERE a = :k", "UPDATE t SET b = b + 1 WHERE a = :l"),
			p("low", "k", "SELECT a, b FROM t WHERE a < :k"),
			p("cut", "k", "DELETE FROM t WHERE a >= :k"),
			p("sum", "", "SELECT COUNT(*), SUM(b) FROM t"),
			p("zero", "k", "UPDATE t SET b = b + 1 WHERE a = :k", "SELECT 1 / (b - b) FROM t WHERE a = :k"),
			p("much", "k", "UPDATE t SET b = b + 5 WHERE a = :k", "SELECT a FROM t WHERE a < 9", "SELECT a FROM t WHERE a < 9"),
			p("add", "k v", "INSERT INTO u VALUES (:k, :v, 0)"),
			p("give", "k v", "UPDATE u SET d = :v WHERE c = :k", "SELECT d FROM u WHERE c = :k"),
			p("note", "k v", "UPDATE u SET e = :v WHERE c = :k", "UPDATE u SET e = e + 1 WHERE c = :k"),
			p("none", "k", "DELETE FROM t WHERE a = NULL", "SELECT b FROM t WHERE a > :k AND a < :k"),
			p("both", "k l", "UPDATE t SET b = 0 WHERE a = :k", "UPDATE u SET e = 1 WHERE c = :l"),
		},
	}
}

// list are the values of literals with blanks between.
func list(s string) []api.Value {
	var l []api.Value
	for word := range strings.FieldsSeq(s) {
		v, e := value.Parse(word)
		if e != api.OK {
			panic(word)
		}
		l = append(l, v)
	}
	return l
}

// state is the rows of some tables, each row but the last with a semicolon behind it.
func state(tables ...string) api.State {
	var s api.State
	for _, rows := range tables {
		var l [][]api.Value
		for text := range strings.SplitSeq(rows, ";") {
			if row := list(text); len(row) > 0 {
				l = append(l, row)
			}
		}
		s.Tables = append(s.Tables, l)
	}
	return s
}

// call is one that is written as the name of its procedure, and its arguments.
func call(s string) api.Call {
	name, args, _ := strings.Cut(s, " ")
	return api.Call{Client: 1, Seq: 1, Proc: name, Args: list(args)}
}

func shownValues(l []api.Value) string {
	var out []string
	for _, v := range l {
		s, e := value.Print(v)
		if e != api.OK {
			s = fmt.Sprintf("?%d,%d,%q", v.Kind, v.Int, v.Text)
		}
		out = append(out, s)
	}
	return strings.Join(out, " ")
}

func shownRows(rows [][]api.Value) string {
	var out []string
	for _, l := range rows {
		out = append(out, shownValues(l))
	}
	return strings.Join(out, "; ")
}

func shownState(s api.State) string {
	var out []string
	for _, rows := range s.Tables {
		out = append(out, shownRows(rows))
	}
	return strings.Join(out, " | ")
}

// shownReply is a reply's results, each its rows and its Count; or its error, and where.
func shownReply(r api.Reply) string {
	var out []string
	for _, x := range r.Results {
		out = append(out, fmt.Sprintf("(%s) %d", shownRows(x.Rows), x.Count))
	}
	if r.Code != api.OK || r.At != 0 {
		out = append(out, wrong(r.Code, r.At))
	}
	return strings.Join(out, ", ")
}

func wrong(e api.Errno, at int) string { return fmt.Sprintf("%v at %d", e, at) }

func shownCalls(l []api.Call) string {
	var out []string
	for _, c := range l {
		out = append(out, fmt.Sprintf("%d %d %s(%s)", c.Client, c.Seq, c.Proc, shownValues(c.Args)))
	}
	return strings.Join(out, ", ")
}

func book(t testing.TB, c api.Catalog) *proc.Book {
	t.Helper()
	b, i, k, f := proc.New(c)
	if b == nil {
		t.Fatalf("%+v: %d, %d, %+v", c, i, k, f)
	}
	return b
}

func stored(t testing.TB, c api.Catalog, parts int, s api.State) *table.Store {
	t.Helper()
	x, e := table.New(c, parts)
	if e != api.OK {
		t.Fatal(e)
	}
	if e := x.Load(s); e != api.OK {
		t.Fatal(shownState(s), e)
	}
	return x
}

// rig is a machine, and its store.
type rig struct {
	*sched.Machine
	store *table.Store
}

func rigged(t testing.TB, b *proc.Book, base int, s api.State) rig {
	t.Helper()
	x := stored(t, b.Catalog(), 3, s)
	m := sched.New(b, x, base)
	if m == nil {
		t.Fatalf("New(.., %d): none", base)
	}
	return rig{m, x}
}

// ordered is a rig over the catalog wide, in which these calls have the places from 0 on.
func ordered(t testing.TB, s api.State, calls ...string) rig {
	t.Helper()
	m := rigged(t, book(t, wide()), 0, s)
	for i, c := range calls {
		m.mustSubmit(t, api.OK, call(c))
		m.mustOrder(t, 1, i, api.OK)
	}
	return m
}

func (m rig) mustSubmit(t testing.TB, want api.Errno, l ...api.Call) {
	t.Helper()
	for _, c := range l {
		if e := m.Submit(c); e != want {
			t.Errorf("Submit(%s) = %v; want %v", shownCalls([]api.Call{c}), e, want)
		}
	}
}

func (m rig) mustOrder(t testing.TB, many, first int, want api.Errno) {
	t.Helper()
	if at, e := m.Order(many); at != first || e != want {
		t.Errorf("Order(%d) = %d, %v; want %d, %v", many, at, e, first, want)
	}
}

func (m rig) mustEnable(t testing.TB, want ...int) {
	t.Helper()
	if l := m.Enabled(); !slices.Equal(l, want) {
		t.Errorf("Enabled = %v; want %v", l, want)
	}
}

func (m rig) mustStep(t testing.TB, want api.Errno, l ...int) {
	t.Helper()
	for _, pos := range l {
		if e := m.Step(pos); e != want {
			t.Errorf("Step(%d) = %v; want %v", pos, e, want)
		}
	}
}

// finish does thrown steps till no call is open: eight each, at most.
func (m rig) finish(t testing.TB, d *dice) {
	t.Helper()
	for range 8 * len(m.Log()) {
		if l := m.Enabled(); len(l) > 0 {
			m.mustStep(t, api.OK, pick(d, l...))
		}
	}
	if n := m.Open(); n > 0 {
		t.Fatalf("%d are open yet", n)
	}
}

// mustReply holds the reply at a place against what is wanted: - is none.
func (m rig) mustReply(t testing.TB, pos int, want string) {
	t.Helper()
	if s := shownTold(m.Machine, pos); s != want {
		t.Errorf("Reply(%d): %s; want %s", pos, s, want)
	}
}

// shownTold is the reply at a place; -, if there is none.
func shownTold(m *sched.Machine, pos int) string {
	r, over := m.Reply(pos)
	switch {
	case over:
		return shownReply(r)
	case !reflect.DeepEqual(r, api.Reply{}):
		return "not over, but " + shownReply(r)
	}
	return "-"
}

// mustCount holds how many wait, have a place and are open, and the place below which all are over, against what is wanted.
func (m rig) mustCount(t testing.TB, pending, log, open, over int) {
	t.Helper()
	if p, l, o, v := m.Pending(), len(m.Log()), m.Open(), m.Over(); p != pending || l != log || o != open || v != over {
		t.Errorf("Pending %d, Log %d, Open %d, Over %d; want %d, %d, %d, %d", p, l, o, v, pending, log, open, over)
	}
}

func (m rig) mustStand(t testing.TB, want string) {
	t.Helper()
	if s := shownState(m.store.State()); s != want {
		t.Errorf("%s; want %s", s, want)
	}
}

func TestExamples(t *testing.T) {
	m := rigged(t, book(t, chapter()), 0, state("1 5; 2 5"))
	m.mustSubmit(t, api.OK, call("move 1 2"), call("move 2 1"), call("put 3 0"))
	m.mustOrder(t, 0, 0, api.ErrPick)
	m.mustOrder(t, 4, 0, api.ErrPick)
	m.mustOrder(t, 3, 0, api.OK)
	m.mustEnable(t, 0)
	m.mustStep(t, api.OK, 0, 0, 0)
	m.mustEnable(t, 1)
	m.mustStep(t, api.OK, 1, 1, 1)
	m.mustEnable(t, 2)
	m.mustStep(t, api.OK, 2)
	m.mustEnable(t)
	m.mustReply(t, 0, "() 1, () 1, (4; 6) 0")
	m.mustReply(t, 1, "() 1, () 1, (5; 5) 0")
	m.mustReply(t, 2, "() 1")
	m.mustStand(t, "1 5; 2 5; 3 0")
	m.mustCount(t, 0, 3, 0, 3)
}

// The first of the ten examples of the whole, in each order of steps that the locks admit.
func TestExamplesOfTheWhole(t *testing.T) {
	for _, x := range []struct {
		was, left string
		calls     []string
		replies   []string
	}{
		{"", "1 4; 2 6", []string{"put 1 5", "put 2 5", "move 1 2"}, []string{"() 1", "() 1", "() 1, () 1, (4; 6) 0"}},
		{"", "1 5", []string{"put 1 5", "put 1 5"}, []string{"() 1", wrong(api.ErrUnique, 0)}},
		{"1 5", "1 4", []string{"move 1 2"}, []string{"() 1, () 0, (4) 0"}},
		{"1 5; 2 5", "1 5; 2 5", []string{"few"}, []string{wrong(api.ErrBudget, 0)}},
		{"1 5", "1 5", []string{"few"}, []string{"(1) 0"}},
	} {
		for seed := range 20 {
			d := dice(seed)
			m := rigged(t, book(t, chapter()), 0, state(x.was))
			for _, c := range x.calls {
				m.mustSubmit(t, api.OK, call(c))
			}
			m.mustOrder(t, len(x.calls), 0, api.OK)
			m.finish(t, &d)
			for pos, want := range x.replies {
				m.mustReply(t, pos, want)
			}
			m.mustStand(t, x.left)
		}
	}
}

func TestP201New(t *testing.T) {
	b := book(t, chapter())
	x := stored(t, chapter(), 2, state("1 5"))
	for _, base := range []int{0, 1, 7, 1 << 20, 1<<62 - 1, 1 << 62} {
		m := rigged(t, b, base, state("1 5"))
		m.mustCount(t, 0, 0, 0, base)
		m.mustEnable(t)
		m.mustStep(t, api.ErrPick, base)
		m.mustReply(t, base, "-")
		m.mustOrder(t, 1, 0, api.ErrPick)
		m.mustStand(t, "1 5")
	}
	for _, base := range []int{-1, -7, math.MinInt, 1<<62 + 1, math.MaxInt} {
		if sched.New(b, x, base) != nil {
			t.Errorf("New(.., %d): a machine", base)
		}
	}
	if sched.New(nil, x, 0) != nil || sched.New(b, nil, 0) != nil || sched.New(nil, nil, 0) != nil || sched.New(nil, nil, -1) != nil {
		t.Error("New of none: a machine")
	}
}

// A machine's places go on from its base, however great that is.
func TestP201Base(t *testing.T) {
	for _, base := range []int{0, 3, 1 << 62} {
		m := rigged(t, book(t, chapter()), base, state("1 5"))
		m.mustSubmit(t, api.OK, call("put 2 0"), call("put 2 1"), call("few"))
		m.mustOrder(t, 2, base, api.OK)
		m.mustOrder(t, 1, base+2, api.OK)
		m.mustEnable(t, base)
		m.mustCount(t, 0, 3, 3, base)
		for _, pos := range []int{base - 1, base + 1, base + 2, base + 3, -1, math.MinInt} {
			m.mustStep(t, api.ErrPick, pos)
			m.mustReply(t, pos, "-")
		}
		m.mustStep(t, api.OK, base, base+1)
		m.mustCount(t, 0, 3, 1, base+2)
		m.mustStep(t, api.OK, base+2)
		m.mustReply(t, base, "() 1")
		m.mustReply(t, base+1, wrong(api.ErrUnique, 0))
		m.mustReply(t, base+2, wrong(api.ErrBudget, 0))
		m.mustReply(t, base+3, "-")
		m.mustReply(t, base-1, "-")
		m.mustCount(t, 0, 3, 0, base+3)
	}
}

func TestP201Catalogs(t *testing.T) {
	b := book(t, wide())
	for i, change := range []func(c *api.Catalog){
		func(c *api.Catalog) { *c = api.Catalog{} },
		func(c *api.Catalog) { c.Procs = nil },
		func(c *api.Catalog) { c.Procs[12].Rows++ },
		func(c *api.Catalog) { c.Procs[0].Body[0] += " " },
		func(c *api.Catalog) { c.Procs[0], c.Procs[1] = c.Procs[1], c.Procs[0] },
		func(c *api.Catalog) { c.Tables[0].Columns[1].NotNull = true },
		func(c *api.Catalog) { c.Tables[1].Indexes = nil },
		func(c *api.Catalog) { c.Tables[1].Indexes[1].Unique = true },
		func(c *api.Catalog) { c.Tables[0], c.Tables[1] = c.Tables[1], c.Tables[0] },
	} {
		c := wide()
		change(&c)
		x, e := table.New(c, 2)
		if e != api.OK || sched.New(b, x, 0) != nil {
			t.Errorf("%d: %v, or a machine over another catalog", i, e)
		}
	}
	for parts := 1; parts <= 16; parts++ {
		if sched.New(b, stored(t, wide(), parts, state("", "")), 0) == nil {
			t.Errorf("%d partitions: none", parts)
		}
	}
}

// The store is as it was when a machine is made, and when calls are submitted and ordered.
func TestP201ChangesNothing(t *testing.T) {
	m := ordered(t, state("1 5; 2 5", "1 7 NULL"), "pay 1 2", "zero 1", "give 1 2")
	m.mustSubmit(t, api.OK, call("cut 0"))
	m.Enabled()
	m.mustStand(t, "1 5; 2 5 | 1 7 NULL")
}

func TestP202Submit(t *testing.T) {
	m := rigged(t, book(t, chapter()), 5, state("1 5"))
	for n := range 64 {
		m.mustCount(t, n, 0, 0, 5)
		m.mustSubmit(t, api.OK, call(fmt.Sprintf("put %d 0", n)))
	}
	for range 3 {
		m.mustSubmit(t, api.ErrQueue, call("few"))
		m.mustCount(t, 64, 0, 0, 5)
	}
	m.mustOrder(t, 2, 5, api.OK)
	m.mustSubmit(t, api.OK, call("few"), call("few"))
	m.mustSubmit(t, api.ErrQueue, call("few"))
	m.mustCount(t, 64, 2, 2, 5)
	m.mustOrder(t, 64, 7, api.OK)
	m.mustCount(t, 0, 66, 66, 5)
	for range 64 {
		m.mustSubmit(t, api.OK, call("few"))
	}
	m.mustSubmit(t, api.ErrQueue, call("few"))
	if l := m.Log(); l[2].Args[0].Int != 2 || l[63].Args[0].Int != 63 || l[64].Proc != "few" || l[65].Proc != "few" {
		t.Error(shownCalls(l))
	}
}

// wrongCalls are calls that are not admitted, and why.
func wrongCalls() []struct {
	call api.Call
	want api.Errno
} {
	one := list("1")[0]
	return []struct {
		call api.Call
		want api.Errno
	}{
		{api.Call{}, api.ErrArg},
		{api.Call{Seq: 1, Proc: "few"}, api.ErrArg},
		{api.Call{Client: 65, Seq: 1, Proc: "few"}, api.ErrArg},
		{api.Call{Client: -1, Seq: 1, Proc: "few"}, api.ErrArg},
		{api.Call{Client: 1, Proc: "few"}, api.ErrArg},
		{api.Call{Client: 1, Seq: -1, Proc: "none"}, api.ErrArg},
		{api.Call{Client: 1, Seq: 1<<62 + 1, Proc: "few"}, api.ErrArg},
		{api.Call{Client: 1, Seq: 1}, api.ErrProc},
		{api.Call{Client: 1, Seq: 1, Proc: "none"}, api.ErrProc},
		{api.Call{Client: 1, Seq: 1, Proc: "t"}, api.ErrProc},
		{api.Call{Client: 1, Seq: 1, Proc: "put"}, api.ErrArgs},
		{api.Call{Client: 1, Seq: 1, Proc: "put", Args: list("1")}, api.ErrArgs},
		{api.Call{Client: 1, Seq: 1, Proc: "put", Args: list("1 2 3")}, api.ErrArgs},
		{api.Call{Client: 1, Seq: 1, Proc: "put", Args: list("1 TRUE")}, api.ErrArgs},
		{api.Call{Client: 1, Seq: 1, Proc: "put", Args: []api.Value{one, {Int: 1}}}, api.ErrArgs},
		{api.Call{Client: 1, Seq: 1, Proc: "put", Args: []api.Value{one, {Kind: 1, Int: 1<<62 + 1}}}, api.ErrArgs},
		{api.Call{Client: 1, Seq: 1, Proc: "few", Args: list("1")}, api.ErrArgs},
	}
}

// What Admit refuses is refused for that, while there is room and when there is none.
func TestP202NotAdmitted(t *testing.T) {
	m := rigged(t, book(t, chapter()), 0, state("1 5"))
	for n := range 65 {
		if n == 0 || n == 63 || n == 64 {
			for _, x := range wrongCalls() {
				m.mustSubmit(t, x.want, x.call)
				m.mustCount(t, n, 0, 0, 0)
			}
		}
		want := api.OK
		if n == 64 {
			want = api.ErrQueue
		}
		m.mustSubmit(t, want, call("few"))
	}
	m.mustOrder(t, 64, 0, api.OK)
	if want := strings.TrimSuffix(strings.Repeat("1 1 few(), ", 64), ", "); shownCalls(m.Log()) != want {
		t.Error(shownCalls(m.Log()))
	}
}

// Of clients and their numbers the machine knows nothing: whatever is admitted may come, as often as it likes.
func TestP202Clients(t *testing.T) {
	m := rigged(t, book(t, chapter()), 0, state("1 5"))
	var want []api.Call
	for _, client := range []int{1, 64, 1, 7} {
		for _, seq := range []int{1 << 62, 5, 5, 1} {
			want = append(want, api.Call{Client: client, Seq: seq, Proc: "few"})
		}
	}
	m.mustSubmit(t, api.OK, want...)
	m.mustOrder(t, len(want), 0, api.OK)
	if l := m.Log(); shownCalls(l) != shownCalls(want) {
		t.Error(shownCalls(l))
	}
}

// NULL is admitted as an argument of any type.
func TestP202Nulls(t *testing.T) {
	m := ordered(t, state("1 5", ""), "put NULL 1", "put 2 NULL", "get NULL 2", "cut NULL")
	m.mustEnable(t, 0, 1, 3)
	m.mustStep(t, api.OK, 3, 1, 2, 0, 2)
	m.mustReply(t, 0, wrong(api.ErrNotNull, 0))
	m.mustReply(t, 1, "() 1")
	m.mustReply(t, 2, "() 0, (NULL) 0")
	m.mustReply(t, 3, "() 0")
	m.mustStand(t, "1 5; 2 NULL | ")
}

func TestP203Order(t *testing.T) {
	m := rigged(t, book(t, chapter()), 9, state(""))
	for _, many := range []int{math.MinInt, -1, 0, 1, 2, math.MaxInt} {
		m.mustOrder(t, many, 0, api.ErrPick)
	}
	for n := range 6 {
		m.mustSubmit(t, api.OK, call(fmt.Sprintf("put %d 0", n)))
	}
	for _, many := range []int{math.MinInt, -6, -1, 0, 7, 64, 65, math.MaxInt} {
		m.mustOrder(t, many, 0, api.ErrPick)
		m.mustCount(t, 6, 0, 0, 9)
	}
	m.mustOrder(t, 2, 9, api.OK)
	m.mustCount(t, 4, 2, 2, 9)
	m.mustOrder(t, 5, 0, api.ErrPick)
	m.mustSubmit(t, api.OK, call("put 6 0"))
	m.mustStep(t, api.OK, 9, 10)
	m.mustOrder(t, 1, 11, api.OK)
	m.mustCount(t, 4, 3, 1, 11)
	m.mustOrder(t, 4, 12, api.OK)
	m.mustCount(t, 0, 7, 5, 11)
	m.mustOrder(t, 1, 0, api.ErrPick)
	for i, c := range m.Log() {
		if want := call(fmt.Sprintf("put %d 0", i)); !reflect.DeepEqual(c, want) {
			t.Errorf("%d: %v; want %v", i, c, want)
		}
	}
	m.mustEnable(t, 11, 12, 13, 14, 15)
}

// What waits has no place, and does nothing.
func TestP203Waiting(t *testing.T) {
	m := ordered(t, state("1 5", ""), "get 1 1")
	m.mustSubmit(t, api.OK, call("pay 2 1"), call("sum"))
	m.mustEnable(t, 0)
	m.mustStep(t, api.ErrPick, 1, 2)
	m.mustStep(t, api.OK, 0, 0)
	m.mustCount(t, 2, 1, 0, 1)
	m.mustEnable(t)
	m.mustOrder(t, 1, 1, api.OK)
	m.mustEnable(t, 1)
	m.mustStep(t, api.ErrPick, 2)
}

// Which calls can step beside one that is open ahead of them.
func TestP204InConflict(t *testing.T) {
	for _, x := range []struct {
		ahead        string
		meet, others []string
	}{
		{"pay 1 2", []string{"pay 1 3", "pay 3 2", "get 1 7", "get 7 2", "low 2", "cut 2", "cut -9", "sum", "put 1 0", "put 2 0", "zero 1", "much 7", "both 2 1"}, []string{"pay 3 4", "get 0 3", "low 1", "low 0", "cut 3", "put 0 0", "put 3 1", "zero 3", "add 1 2", "give 1 2", "none 1", "both 3 1", "put NULL 1", "cut NULL", "pay NULL NULL"}},
		{"get 1 2", []string{"pay 1 3", "pay 3 2", "cut 2", "cut 0", "put 1 0", "put 2 0", "zero 2", "much 1", "both 1 1"}, []string{"get 1 2", "low 2", "sum", "cut 3", "put 3 0", "much 3", "both 3 1", "note 1 2"}},
		{"low 3", []string{"put 2 0", "put -9 0", "pay 2 7", "pay 7 2", "cut 2", "cut -5", "zero 0", "much 1"}, []string{"put 3 0", "pay 3 4", "cut 3", "low 9", "sum", "get 1 2", "put NULL 2"}},
		{"cut 3", []string{"put 3 0", "put 4611686018427387904 0", "get 3 1", "get 1 9", "low 4", "sum", "cut 9", "much 1"}, []string{"put 2 0", "get 1 2", "low 3", "low 1", "pay -1 2", "add 3 3"}},
		{"sum", []string{"put 1 1", "cut 9", "pay 1 2", "zero 5", "much 5", "both 1 1"}, []string{"sum", "low 5", "get 1 2", "none 5", "put NULL 1", "cut NULL", "add 1 1", "pay NULL NULL"}},
		{"add 1 5", []string{"add 2 6", "add 1 5", "give 3 7", "give 1 NULL", "note 1 1", "both 3 1"}, []string{"note 2 1", "both 3 2", "sum", "put 1 5", "note NULL 1", "add NULL 5"}},
		{"note 1 5", []string{"note 1 5", "give 1 2", "add 1 1", "both 1 1"}, []string{"note 2 5", "give 2 5", "add 2 5", "both 1 2", "put 1 5"}},
		{"none 1", nil, []string{"none 1", "cut 0", "sum", "put 1 1", "pay 1 2", "much 1"}},
		{"put NULL 1", nil, []string{"put NULL 1", "cut 0", "sum", "put 1 1"}},
	} {
		s := state("1 5; 2 5; 3 5", "1 1 1; 2 2 2")
		for _, c := range x.meet {
			m := ordered(t, s, x.ahead, c)
			m.mustEnable(t, 0)
			m.mustStep(t, api.ErrPick, 1)
		}
		for _, c := range x.others {
			m := ordered(t, s, x.ahead, c)
			m.mustEnable(t, 0, 1)
			m.mustStep(t, api.OK, 1)
		}
		if t.Failed() {
			t.Fatal(x.ahead)
		}
	}
}

// A call waits for all that are open ahead of it, those that wait themselves too; for none behind it, and none that is over.
func TestP204Ahead(t *testing.T) {
	m := ordered(t, state("1 5; 2 5; 3 5", ""), "pay 1 2", "pay 2 3", "pay 3 4", "get 1 1", "get 4 4", "get 5 5")
	m.mustEnable(t, 0, 5)
	m.mustStep(t, api.ErrPick, 1, 2, 3, 4, 6, -1)
	m.mustStep(t, api.OK, 0)
	m.mustEnable(t, 0, 5)
	m.mustStep(t, api.OK, 0)
	m.mustEnable(t, 1, 3, 5)
	m.mustStep(t, api.ErrPick, 0, 2, 4)
	m.mustStep(t, api.OK, 3, 1)
	m.mustEnable(t, 1, 3, 5)
	m.mustStep(t, api.OK, 1)
	m.mustEnable(t, 2, 3, 5)
	m.mustStep(t, api.OK, 5, 5, 2, 2)
	m.mustEnable(t, 3, 4)
	m.mustCount(t, 0, 6, 2, 3)
	m.mustStep(t, api.OK, 3)
	m.mustCount(t, 0, 6, 1, 4)
	m.mustStep(t, api.OK, 4, 4)
	m.mustStep(t, api.ErrPick, 0, 1, 2, 3, 4, 5, 6)
	m.mustEnable(t)
	m.mustCount(t, 0, 6, 0, 6)
	m.mustReply(t, 3, "(4) 0, (4) 0")
	m.mustReply(t, 4, "() 0, () 0")
	m.mustStand(t, "1 4; 2 5; 3 5 | ")
}

// A step is one statement, whose changes are there when it is done; what fails is taken back, and over.
func TestP204Steps(t *testing.T) {
	m := ordered(t, state("1 5; 2 5", "1 1 1; 2 2 2"), "pay 1 2", "give 1 7", "note 2 4")
	m.mustStep(t, api.OK, 0)
	m.mustStand(t, "1 4; 2 5 | 1 1 1; 2 2 2")
	m.mustStep(t, api.OK, 1)
	m.mustStand(t, "1 4; 2 5 | 1 7 1; 2 2 2")
	m.mustStep(t, api.OK, 2)
	m.mustStand(t, "1 4; 2 5 | 1 7 1; 2 2 4")
	for pos := range 3 {
		m.mustReply(t, pos, "-")
	}
	m.mustStep(t, api.OK, 2, 0, 1)
	m.mustStand(t, "1 4; 2 6 | 1 7 1; 2 2 5")
	m.mustReply(t, 0, "() 1, () 1")
	m.mustReply(t, 1, "() 1, (7) 0")
	m.mustReply(t, 2, "() 1, () 1")
	m.mustCount(t, 0, 3, 0, 3)
}

func TestP204Failing(t *testing.T) {
	m := ordered(t, state("1 5; 2 5", "1 1 1; 2 2 2"), "zero 1", "give 1 2", "zero 2", "get 1 2")
	m.mustEnable(t, 0, 1, 2)
	m.mustStep(t, api.OK, 0, 2)
	m.mustStand(t, "1 6; 2 6 | 1 1 1; 2 2 2")
	m.mustStep(t, api.OK, 1)
	m.mustReply(t, 1, wrong(api.ErrUnique, 0))
	m.mustStep(t, api.OK, 0)
	m.mustStand(t, "1 5; 2 6 | 1 1 1; 2 2 2")
	m.mustReply(t, 0, wrong(api.ErrZero, 1))
	m.mustStep(t, api.ErrPick, 0, 1, 3)
	m.mustCount(t, 0, 4, 2, 2)
	m.mustStep(t, api.OK, 2)
	m.mustReply(t, 2, wrong(api.ErrZero, 1))
	m.mustEnable(t, 3)
	m.mustStep(t, api.OK, 3, 3)
	m.mustReply(t, 3, "(5) 0, (5) 0")
}

// What is over its budget is taken back too, and those behind it go on over what was there.
func TestP204Budget(t *testing.T) {
	m := ordered(t, state("1 5; 2 5", ""), "much 1", "get 1 2")
	m.mustStep(t, api.OK, 0, 0)
	m.mustStand(t, "1 10; 2 5 | ")
	m.mustStep(t, api.ErrPick, 1)
	m.mustStep(t, api.OK, 0)
	m.mustStand(t, "1 5; 2 5 | ")
	m.mustReply(t, 0, wrong(api.ErrBudget, 2))
	m.mustStep(t, api.OK, 1, 1)
	m.mustReply(t, 1, "(5) 0, (5) 0")
}

func TestP204WrongPlaces(t *testing.T) {
	m := ordered(t, state("1 5", ""), "get 1 2", "get 1 2")
	for _, pos := range []int{math.MinInt, math.MinInt + 1, -1, 2, 3, 64, 1 << 62, math.MaxInt} {
		m.mustStep(t, api.ErrPick, pos)
		m.mustReply(t, pos, "-")
	}
	m.mustCount(t, 0, 2, 2, 0)
	m.mustStep(t, api.OK, 1, 1)
	m.mustStep(t, api.ErrPick, 1)
	m.mustReply(t, 1, "(5) 0, () 0")
	m.mustCount(t, 0, 2, 1, 0)
}

func TestP205Over(t *testing.T) {
	m := ordered(t, state("", ""), "put 1 1", "put 2 2", "put 3 3", "put 4 4")
	for _, x := range []struct{ step, open, over int }{{2, 3, 0}, {0, 2, 1}, {3, 1, 1}, {1, 0, 4}} {
		m.mustReply(t, x.step, "-")
		m.mustStep(t, api.OK, x.step)
		m.mustReply(t, x.step, "() 1")
		m.mustCount(t, 0, 4, x.open, x.over)
	}
	m.mustSubmit(t, api.OK, call("sum"))
	m.mustCount(t, 1, 4, 0, 4)
	m.mustOrder(t, 1, 4, api.OK)
	m.mustCount(t, 0, 5, 1, 4)
	m.mustStep(t, api.OK, 4)
	m.mustCount(t, 0, 5, 0, 5)
	m.mustReply(t, 4, "(4 10) 0")
	for pos := range 4 {
		m.mustReply(t, pos, "() 1")
	}
}

// The log is the calls as they were submitted, whatever becomes of them.
func TestP205Log(t *testing.T) {
	m := rigged(t, book(t, wide()), 4, state("1 5", ""))
	want := []api.Call{call("put 1 1"), call("zero 1"), call("put NULL NULL"), {Client: 64, Seq: 1 << 62, Proc: "sum"}, {Client: 2, Seq: 9, Proc: "get", Args: list("-4611686018427387904 7")}}
	m.mustSubmit(t, api.OK, want...)
	if m.Log() != nil {
		t.Error(shownCalls(m.Log()))
	}
	for i := range want {
		m.mustOrder(t, 1, 4+i, api.OK)
		if l := m.Log(); shownCalls(l) != shownCalls(want[:i+1]) {
			t.Error(shownCalls(l))
		}
	}
	d := dice(1)
	m.finish(t, &d)
	if l := m.Log(); !reflect.DeepEqual(l, want) {
		t.Error(shownCalls(l))
	}
}

// Two that are not in conflict step by turns, each as it would alone.
func TestP208ByTurns(t *testing.T) {
	for first := range 2 {
		m := ordered(t, state("1 5; 2 5; 3 5", ""), "pay 1 2", "zero 3")
		for range 2 {
			m.mustEnable(t, 0, 1)
			m.mustStep(t, api.OK, first, 1-first)
		}
		m.mustReply(t, 0, "() 1, () 1")
		m.mustReply(t, 1, wrong(api.ErrZero, 1))
		m.mustStand(t, "1 4; 2 6; 3 5 | ")
	}
}
