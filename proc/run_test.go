package proc_test

import (
	"reflect"
	"slices"
	"strings"
	"testing"

	"unison/api"
	"unison/proc"
	"unison/table"
)

// shownRun is what Reply tells of a run.
func shownRun(r *proc.Run) string {
	reply, over := r.Reply()
	switch {
	case over:
		return "over: " + shownReply(reply)
	case !reflect.DeepEqual(reply, api.Reply{}):
		return "not over, but " + shownReply(reply)
	}
	return "not over"
}

// stands holds a run, and the rows of its store, against what is wanted.
func stands(t *testing.T, r *proc.Run, x *table.Store, run, rows string) {
	t.Helper()
	for range 2 {
		if got := shownRun(r); got != run {
			t.Errorf("%s; want %s", got, run)
		}
	}
	if got := shownState(x.State()); got != rows {
		t.Errorf("%s; want %s", got, rows)
	}
}

// steps holds what a Step answers against what is wanted.
func steps(t *testing.T, r *proc.Run, over bool) {
	t.Helper()
	if got := r.Step(); got != over {
		t.Errorf("Step: %t", got)
	}
}

// What a run has changed is there as soon as its step is done.
func TestP176Steps(t *testing.T) {
	x := stored(t, chapter(), 3, state("1 5; 2 5"))
	r := book(t, chapter()).Begin(x, call("move", "1 2"))
	stands(t, r, x, "not over", "1 5; 2 5")
	steps(t, r, false)
	stands(t, r, x, "not over", "1 4; 2 5")
	steps(t, r, false)
	stands(t, r, x, "not over", "1 4; 2 6")
	steps(t, r, true)
	stands(t, r, x, "over: () 1, () 1, (4; 6) 0", "1 4; 2 6")
	for range 3 {
		steps(t, r, true)
		stands(t, r, x, "over: () 1, () 1, (4; 6) 0", "1 4; 2 6")
		r.Cancel()
		stands(t, r, x, "over: () 1, () 1, (4; 6) 0", "1 4; 2 6")
	}
}

// A run that is over does nothing more, whatever becomes of the store.
func TestP176OverIsOver(t *testing.T) {
	b := book(t, chapter())
	x := stored(t, chapter(), 3, state("1 5; 2 5"))
	done, failed, refused, gone := b.Begin(x, call("put", "3 5")), b.Begin(x, call("put", "1 5")), b.Begin(x, call("put", "")), b.Begin(x, call("put", "4 5"))
	steps(t, done, true)
	steps(t, failed, true)
	gone.Cancel()
	ask := func(rows string) {
		t.Helper()
		stands(t, done, x, "over: () 1", rows)
		stands(t, failed, x, "over: "+wrong(api.ErrUnique, 0), rows)
		stands(t, refused, x, "over: "+wrong(api.ErrArgs, 0), rows)
		stands(t, gone, x, "over: "+wrong(api.ErrArg, 0), rows)
		for _, r := range []*proc.Run{done, failed, refused, gone} {
			steps(t, r, true)
			r.Cancel()
		}
	}
	ask("1 5; 2 5; 3 5")
	b.Call(x, call("move", "3 1"))
	ask("1 6; 2 5; 3 4")
	x.Load(state("9 9"))
	ask("9 9")
	ask("9 9")
}

// shift is a procedure of each kind of statement.
func shift() api.Catalog {
	return one(99, 999, params("k I", "l I"), "UPDATE t SET b = b + 1", "DELETE FROM t WHERE a = :k", "SELECT a FROM t", "INSERT INTO w VALUES (:l, TRUE, :l, 'x')", "INSERT INTO t VALUES (:l, 0)", "SELECT a, b FROM t")
}

func TestP176CancelAtEachPlace(t *testing.T) {
	b := book(t, shift())
	rows := "1 5; 2 NULL | 1 NULL 4 'a'"
	for at := range 6 {
		x := stored(t, shift(), 3, state("1 5; 2 NULL", "1 NULL 4 'a'"))
		r := b.Begin(x, call("p", "1 9"))
		for range at {
			steps(t, r, false)
		}
		if got := shownState(x.State()); (got == rows) != (at == 0) {
			t.Error(at, got)
		}
		r.Cancel()
		stands(t, r, x, "over: "+wrong(api.ErrArg, 0), rows)
		steps(t, r, true)
		r.Cancel()
		stands(t, r, x, "over: "+wrong(api.ErrArg, 0), rows)
	}
}

// The statement that fails, or goes over the budget, takes all ahead of it back with it.
func TestP176FailsAtEachPlace(t *testing.T) {
	rows := "1 5; 2 NULL | 1 NULL 4 'a'"
	for at := range 6 {
		for _, x := range []struct {
			source string
			want   api.Errno
		}{{"SELECT 1 / 0 FROM w", api.ErrZero}, {"INSERT INTO w VALUES (7, TRUE, 4, 'x')", api.ErrUnique}, {"UPDATE w SET k = NULL", api.ErrNotNull}, {"SELECT 4611686018427387904 + k FROM w", api.ErrOverflow}} {
			c := shift()
			c.Procs[0].Body = slices.Insert(c.Procs[0].Body, at, x.source)
			store := stored(t, c, 3, state("1 5; 2 NULL", "1 NULL 4 'a'"))
			r := book(t, c).Begin(store, call("p", "1 9"))
			for range at {
				steps(t, r, false)
			}
			steps(t, r, true)
			stands(t, r, store, "over: "+wrong(x.want, at), rows)
		}
	}
	// How many rows are told or changed at each place, all ahead of it too.
	for at, sum := range []int{2, 3, 4, 5, 6, 8} {
		for _, most := range []int{sum - 1, sum} {
			c := shift()
			c.Procs[0].Rows = most
			store := stored(t, c, 3, state("1 5; 2 NULL", "1 NULL 4 'a'"))
			r := book(t, c).Begin(store, call("p", "1 9"))
			for range at {
				steps(t, r, false)
			}
			if steps(t, r, most < sum || at == 5); most < sum {
				stands(t, r, store, "over: "+wrong(api.ErrBudget, at), rows)
			}
		}
	}
}

// A step is one over the store as it is then, whoever changed it; what others changed stays, when what the run has changed is taken back.
func TestP176AmongOthers(t *testing.T) {
	b := book(t, shift())
	x := stored(t, shift(), 3, state("1 5; 2 6", ""))
	r := b.Begin(x, call("p", "1 9"))
	other := x.Begin()
	change := func(rows string) {
		t.Helper()
		if e := other.Change(0, nil, state(rows).Tables[0]); e != api.OK {
			t.Fatal(e)
		}
	}
	change("3 7")
	steps(t, r, false)
	stands(t, r, x, "not over", "1 6; 2 7; 3 8 | ")
	change("4 7")
	steps(t, r, false)
	stands(t, r, x, "not over", "2 7; 3 8; 4 7 | ")
	change("5 7")
	steps(t, r, false)
	steps(t, r, false)
	change("6 7")
	steps(t, r, false)
	stands(t, r, x, "not over", "2 7; 3 8; 4 7; 5 7; 6 7; 9 0 | 9 TRUE 9 'x'")
	change("7 7")
	steps(t, r, true)
	stands(t, r, x, "over: () 3, () 1, (2; 3; 4; 5) 0, () 1, () 1, (2 7; 3 8; 4 7; 5 7; 6 7; 7 7; 9 0) 0", "2 7; 3 8; 4 7; 5 7; 6 7; 7 7; 9 0 | 9 TRUE 9 'x'")
	// What is done for good is not taken back with what others did.
	other.Undo()
	stands(t, r, x, "over: () 3, () 1, (2; 3; 4; 5) 0, () 1, () 1, (2 7; 3 8; 4 7; 5 7; 6 7; 7 7; 9 0) 0", "2 7; 9 0 | 9 TRUE 9 'x'")
	for _, end := range []func(r *proc.Run){(*proc.Run).Cancel, func(r *proc.Run) { steps(t, r, true) }} {
		x := stored(t, shift(), 3, state("1 5; 2 6", ""))
		r := b.Begin(x, call("p", "1 9"))
		steps(t, r, false)
		other = x.Begin()
		change("3 7; 8 8")
		steps(t, r, false)
		steps(t, r, false)
		if e := other.Change(1, nil, state("4 TRUE 9 'x'").Tables[0]); e != api.OK {
			t.Fatal(e)
		}
		other.Done()
		end(r)
		if got := shownState(x.State()); got != "1 5; 2 6; 3 7; 8 8 | 4 TRUE 9 'x'" {
			t.Error(got)
		}
		if got := shownRun(r); got != "over: "+wrong(api.ErrArg, 0) && got != "over: "+wrong(api.ErrUnique, 3) {
			t.Error(got)
		}
	}
}

// Ahead of its first step a run has done nothing, and nothing that is done to the store ends it.
func TestP176LoadedAheadOfTheFirstStep(t *testing.T) {
	b := book(t, chapter())
	x := stored(t, chapter(), 3, state("1 5; 2 5"))
	r := b.Begin(x, call("move", "7 8"))
	if e := x.Load(state("7 1; 8 1")); e != api.OK {
		t.Fatal(e)
	}
	for range 3 {
		r.Step()
	}
	stands(t, r, x, "over: () 1, () 1, (0; 2) 0", "7 0; 8 2")
	r = b.Begin(x, call("put", "1 1"))
	x.Load(state("1 2"))
	r.Cancel()
	stands(t, r, x, "over: "+wrong(api.ErrArg, 0), "1 2")
}

// What a run has changed is gone with the rows that there were ahead of a load: it can't go on, and nothing of what was loaded is changed.
func TestP176LoadedBetweenSteps(t *testing.T) {
	b := book(t, chapter())
	for done := 1; done < 3; done++ {
		for _, cancel := range []bool{false, true} {
			x := stored(t, chapter(), 3, state("1 5; 2 5"))
			r := b.Begin(x, call("move", "1 2"))
			for range done {
				steps(t, r, false)
			}
			if e := x.Load(state("1 7; 3 7")); e != api.OK {
				t.Fatal(e)
			}
			stands(t, r, x, "not over", "1 7; 3 7")
			if cancel {
				r.Cancel()
				stands(t, r, x, "over: "+wrong(api.ErrArg, 0), "1 7; 3 7")
				continue
			}
			steps(t, r, true)
			stands(t, r, x, "over: "+wrong(api.ErrArg, done), "1 7; 3 7")
		}
	}
}

// Where rows meet that others left behind, no statement of a run is one over a right state.
func TestP176StateGetsWrong(t *testing.T) {
	c := one(99, 999, nil, "INSERT INTO t VALUES (8, 8)", "SELECT a FROM t", "DELETE FROM t WHERE a = 1")
	for done := range 3 {
		x := stored(t, c, 2, state("1 5", "1 TRUE 5 'a'"))
		r := book(t, c).Begin(x, call("p", ""))
		for range done {
			steps(t, r, false)
		}
		v, w := x.Begin(), x.Begin()
		if v.Change(1, state("1 TRUE 5 'a'").Tables[0], nil) != api.OK || w.Change(1, nil, state("2 TRUE 5 'a'").Tables[0]) != api.OK {
			t.Fatal("no changes")
		}
		v.Undo()
		steps(t, r, true)
		stands(t, r, x, "over: "+wrong(api.ErrState, done), "1 5 | 1 TRUE 5 'a'; 2 TRUE 5 'a'")
		w.Undo()
		if got := shownReply(book(t, c).Call(x, call("p", ""))); got != "() 1, (1; 8) 0, () 1" {
			t.Error(got)
		}
	}
}

// turns are all orders in which so many steps of each of some runs can be done.
func turns(counts ...int) [][]int {
	var l [][]int
	for i, n := range counts {
		if n == 0 {
			continue
		}
		rest := slices.Clone(counts)
		rest[i]--
		for _, behind := range turns(rest...) {
			l = append(l, slices.Concat([]int{i}, behind))
		}
	}
	if l == nil {
		return [][]int{nil}
	}
	return l
}

// Runs that touch no row in common tell what they tell alone, whichever steps when; one that is taken back leaves the others as they are.
func TestP177ByTurns(t *testing.T) {
	c := chapter()
	c.Tables[0].Indexes = []api.Index{{Name: "i", Columns: []int{1}}}
	c.Procs = []api.Proc{
		{Name: "move", Params: params("k I", "l I"), Body: []string{"UPDATE t SET b = b - 1 WHERE a = :k", "UPDATE t SET b = b + 1 WHERE a = :l", "SELECT a, b FROM t WHERE a >= :k AND a <= :l"}, Rows: 9, Bytes: 99},
		{Name: "swap", Params: params("k I", "l I"), Body: []string{"DELETE FROM t WHERE a = :k", "INSERT INTO t VALUES (:l, 9)", "SELECT b FROM t WHERE a = :l"}, Rows: 9, Bytes: 99},
		{Name: "fail", Params: params("k I"), Body: []string{"UPDATE t SET b = b + 1 WHERE a = :k", "SELECT b / 0 FROM t WHERE a = :k"}, Rows: 9, Bytes: 99},
		{Name: "over", Params: params("k I"), Body: []string{"DELETE FROM t WHERE a = :k", "INSERT INTO t VALUES (:k, 1)"}, Rows: 1},
	}
	b := book(t, c)
	first := state("1 5; 2 5; 3 5; 4 NULL; 5 5; 6 5; 7 5")
	sets := [][]api.Call{
		{call("move", "1 2"), call("swap", "3 30"), call("fail", "5")},
		{call("move", "1 2"), call("move", "5 6"), call("over", "3")},
		{call("swap", "3 3"), call("swap", "4 5"), call("fail", "7")},
		{call("swap", "1 10"), call("over", "2"), call("over", "4")},
	}
	for _, calls := range sets {
		var alone, counts = []string{}, []int{}
		left := first
		for _, x := range calls {
			r, s := b.Mean(left, x)
			if one, _ := b.Mean(first, x); shownReply(one) != shownReply(r) {
				t.Fatal(x, shownReply(one), shownReply(r))
			}
			alone, left = append(alone, "over: "+shownReply(r)), s
			p := slices.IndexFunc(c.Procs, func(p api.Proc) bool { return p.Name == x.Proc })
			counts = append(counts, len(c.Procs[p].Body))
		}
		for n, order := range turns(counts...) {
			x := stored(t, c, 1+n%5, first)
			var runs []*proc.Run
			for _, k := range calls {
				runs = append(runs, b.Begin(x, k))
			}
			for _, i := range order {
				runs[i].Step()
			}
			for i, r := range runs {
				stands(t, r, x, alone[i], shownState(left))
			}
		}
	}
}

// All runs but one are cancelled, each behind so many steps.
func TestP177CancelledByTurns(t *testing.T) {
	b := book(t, chapter())
	calls := []api.Call{call("move", "1 2"), call("move", "3 4"), call("move", "5 6")}
	for n, order := range turns(2, 3, 2) {
		x := stored(t, chapter(), 1+n%5, state("1 5; 2 5; 3 5; 4 5; 5 5; 6 5"))
		var runs []*proc.Run
		done := []int{0, 0, 0}
		for _, k := range calls {
			runs = append(runs, b.Begin(x, k))
		}
		for _, i := range order {
			done[i]++
			if i == 1 || done[i] < 2 {
				runs[i].Step()
			} else {
				runs[i].Cancel()
			}
		}
		stands(t, runs[0], x, "over: "+wrong(api.ErrArg, 0), "1 5; 2 5; 3 4; 4 6; 5 5; 6 5")
		stands(t, runs[2], x, "over: "+wrong(api.ErrArg, 0), "1 5; 2 5; 3 4; 4 6; 5 5; 6 5")
		if got := shownRun(runs[1]); !strings.HasPrefix(got, "over: () 1, () 1, (") {
			t.Error(got)
		}
	}
}

// Runs of one book over stores of their own, and of two books over one store.
func TestP177BooksAndStores(t *testing.T) {
	a, b := book(t, chapter()), book(t, chapter())
	x, y := stored(t, chapter(), 2, state("1 5; 2 5")), stored(t, chapter(), 5, state("1 7"))
	r, q, s := a.Begin(x, call("move", "1 2")), a.Begin(y, call("move", "1 2")), b.Begin(x, call("put", "3 3"))
	steps(t, r, false)
	steps(t, q, false)
	steps(t, s, true)
	steps(t, r, false)
	q.Cancel()
	steps(t, r, true)
	stands(t, r, x, "over: () 1, () 1, (4; 6) 0", "1 4; 2 6; 3 3")
	stands(t, q, y, "over: "+wrong(api.ErrArg, 0), "1 7")
	stands(t, s, x, "over: () 1", "1 4; 2 6; 3 3")
}
