package table_test

import (
	"math"
	"slices"
	"strings"
	"testing"

	"unison/api"
	"unison/table"
)

// three has the rows of the chapter's first example.
func three(t testing.TB, parts int) (*table.Store, *table.Work) {
	t.Helper()
	s := mustNew(t, ofTables(small()), parts)
	w := s.Begin()
	mustChange(t, w, 0, nil, rows{of(num(2), text("a")), of(num(1), null), of(num(3), null)}, api.OK)
	return s, w
}

func TestExamples(t *testing.T) {
	inEach(t, func(t *testing.T, parts int) {
		s, w := three(t, parts)
		first := rows{of(num(1), null), of(num(2), text("a")), of(num(3), null)}
		mustHave(t, s, first)
		mustTell(t, "Scan", w.Scan(0, 0, "", ""), rows{first[0], first[2], first[1]})
		if r, ok := w.Get(0, num(2)); !ok || !slices.Equal(r, first[1]) {
			t.Errorf("Get = %v, %t", r, ok)
		}
		mustChange(t, w, 0, nil, rows{of(num(4), text("a"))}, api.ErrUnique)
		mustChange(t, w, 0, nil, rows{of(num(2), text("z"))}, api.ErrUnique)
		mustChange(t, w, 0, rows{of(num(2), text("a"))}, rows{of(num(2), text("z"))}, api.OK)
		mustChange(t, w, 0, rows{of(num(9), null)}, nil, api.ErrArg)
		mustChange(t, w, 0, rows{of(num(1), null), of(num(1), null)}, nil, api.ErrArg)
		mustChange(t, w, 0, rows{of(num(1))}, nil, api.ErrArg)
		mustChange(t, w, 0, nil, rows{of(null, text("b"))}, api.ErrNotNull)
		mustChange(t, w, 0, nil, rows{of(truth(1), text("b"))}, api.ErrArg)
		mustChange(t, w, 1, nil, nil, api.ErrArg)
		mustHave(t, s, rows{first[0], of(num(2), text("z")), first[2]})
		w.Undo()
		mustHave(t, s, nil)
		if !w.Over() {
			t.Errorf("the work is not over")
		}
		mustChange(t, w, 0, nil, nil, api.ErrArg)
	})
}

func TestS8Change(t *testing.T) {
	for i, c := range []struct{ out, in, want rows }{
		{nil, nil, rows{of(num(1), null), of(num(2), text("a")), of(num(3), null)}},
		{nil, rows{of(num(0), text(""))}, rows{of(num(0), text("")), of(num(1), null), of(num(2), text("a")), of(num(3), null)}},
		{rows{of(num(2), text("a"))}, nil, rows{of(num(1), null), of(num(3), null)}},
		{rows{of(num(3), null), of(num(1), null), of(num(2), null)}, nil, nil},
		// Just the key of what goes counts.
		{rows{of(num(2), null)}, nil, rows{of(num(1), null), of(num(3), null)}},
		{rows{of(num(1), text("a"))}, nil, rows{of(num(2), text("a")), of(num(3), null)}},
		{rows{of(num(1), text("zz"))}, rows{of(num(1), text("b"))}, rows{of(num(1), text("b")), of(num(2), text("a")), of(num(3), null)}},
		// One goes, another comes under its key, or has its value.
		{rows{of(num(2), text("a"))}, rows{of(num(2), text("a"))}, rows{of(num(1), null), of(num(2), text("a")), of(num(3), null)}},
		{rows{of(num(2), text("a"))}, rows{of(num(5), text("a"))}, rows{of(num(1), null), of(num(3), null), of(num(5), text("a"))}},
		{rows{of(num(2), text("a")), of(num(1), null)}, rows{of(num(1), text("a")), of(num(2), null)}, rows{of(num(1), text("a")), of(num(2), null), of(num(3), null)}},
		{rows{of(num(1), null), of(num(2), text("a")), of(num(3), null)}, rows{of(num(2), null), of(num(3), text("a")), of(num(4), null)}, rows{of(num(2), null), of(num(3), text("a")), of(num(4), null)}},
		{rows{of(num(1), null)}, rows{of(num(7), text("b")), of(num(6), text("c")), of(num(5), null)}, rows{of(num(2), text("a")), of(num(3), null), of(num(5), null), of(num(6), text("c")), of(num(7), text("b"))}},
	} {
		inEach(t, func(t *testing.T, parts int) {
			s, w := three(t, parts)
			mustChange(t, w, 0, c.out, c.in, api.OK)
			mustHave(t, s, c.want)
			mustTell(t, "Scan", w.Scan(0, 0, "", ""), sorted(t, small(), 0, c.want))
			for _, r := range c.want {
				if got, ok := w.Get(0, r[0]); !ok || !slices.Equal(got, r) {
					t.Errorf("Get(%v) = %v, %t", r[0], got, ok)
				}
			}
			w.Undo()
			mustHave(t, s, nil)
			if t.Failed() {
				t.Errorf("case %d", i)
			}
		})
	}
}

func TestS8Wrong(t *testing.T) {
	there, misfit, lacks := of(num(2), text("a")), of(num(1), truth(1)), of(null, text("b"))
	for i, c := range []struct {
		out, in rows
		want    api.Errno
	}{
		// What goes: it must fit, be there, and go once.
		{rows{nil}, nil, api.ErrArg},
		{rows{{}}, nil, api.ErrArg},
		{rows{of(num(2))}, nil, api.ErrArg},
		{rows{of(num(2), text("a"), null)}, nil, api.ErrArg},
		{rows{of(num(2), num(1))}, nil, api.ErrArg},
		{rows{of(num(2), text(strings.Repeat("a", 65)))}, nil, api.ErrArg},
		{rows{of(num(2), api.Value{Kind: api.Text, Int: 1})}, nil, api.ErrArg},
		{rows{of(text("2"), text("a"))}, nil, api.ErrArg},
		{rows{of(null, text("a"))}, nil, api.ErrArg},
		{rows{of(null, null)}, nil, api.ErrArg},
		{rows{of(num(4), null)}, nil, api.ErrArg},
		{rows{of(num(4), text("a"))}, nil, api.ErrArg},
		{rows{there, of(num(2), null)}, nil, api.ErrArg},
		{rows{there, of(num(1), null), there}, nil, api.ErrArg},
		{rows{there, of(num(1), null), of(num(0), null)}, nil, api.ErrArg},
		{rows{of(num(0), null)}, rows{of(num(0), null)}, api.ErrArg},
		// What comes: it must fit.
		{nil, rows{nil}, api.ErrArg},
		{nil, rows{of(num(4))}, api.ErrArg},
		{nil, rows{of(num(4), null, null)}, api.ErrArg},
		{nil, rows{of(text("x"), null)}, api.ErrArg},
		{nil, rows{of(num(4), num(4))}, api.ErrArg},
		{nil, rows{of(num(4), truth(0))}, api.ErrArg},
		{nil, rows{of(num(api.MaxInt+1), null)}, api.ErrArg},
		{nil, rows{of(num(-api.MaxInt-1), null)}, api.ErrArg},
		{nil, rows{of(num(4), text(strings.Repeat("x", 65)))}, api.ErrArg},
		{nil, rows{of(num(4), api.Value{Int: 1})}, api.ErrArg},
		{nil, rows{of(num(4), api.Value{Kind: 4})}, api.ErrArg},
		{nil, rows{of(api.Value{Kind: api.Int, Int: 4, Text: "x"}, null)}, api.ErrArg},
		{nil, rows{of(num(4), null), of(num(5), text("c")), misfit}, api.ErrArg},
		// It must not lack a value.
		{nil, rows{of(null, null)}, api.ErrNotNull},
		{nil, rows{of(num(4), null), lacks}, api.ErrNotNull},
		{rows{there}, rows{of(null, text("a"))}, api.ErrNotNull},
		// It must have a key, and a value, that no other one has.
		{nil, rows{there}, api.ErrUnique},
		{nil, rows{of(num(2), null)}, api.ErrUnique},
		{nil, rows{of(num(1), text("b"))}, api.ErrUnique},
		{nil, rows{of(num(4), null), of(num(4), null)}, api.ErrUnique},
		{nil, rows{of(num(4), text("b")), of(num(5), null), of(num(4), text("c"))}, api.ErrUnique},
		{nil, rows{of(num(4), text("b")), of(num(5), null), of(num(6), text("b"))}, api.ErrUnique},
		{nil, rows{of(num(4), text("a"))}, api.ErrUnique},
		{rows{of(num(1), null)}, rows{of(num(1), text("a"))}, api.ErrUnique},
		{rows{of(num(1), null)}, rows{of(num(3), null)}, api.ErrUnique},
		{rows{of(num(1), text("a"))}, rows{of(num(4), text("a"))}, api.ErrUnique},
		{rows{there}, rows{of(num(2), text("a")), of(num(4), text("a"))}, api.ErrUnique},
		{rows{there}, rows{of(num(2), text("a")), of(num(2), text("b"))}, api.ErrUnique},
		// Of several, the one that is named first.
		{rows{of(num(9), null)}, rows{lacks}, api.ErrArg},
		{rows{of(num(9), null)}, rows{there}, api.ErrArg},
		{rows{there, there}, rows{of(num(4), null), of(num(4), null)}, api.ErrArg},
		{rows{misfit}, rows{lacks}, api.ErrArg},
		{nil, rows{lacks, misfit}, api.ErrArg},
		{nil, rows{misfit, lacks}, api.ErrArg},
		{nil, rows{there, misfit}, api.ErrArg},
		{nil, rows{there, of(num(4), null), of(num(4), null), lacks, misfit}, api.ErrArg},
		{nil, rows{there, lacks}, api.ErrNotNull},
		{nil, rows{lacks, lacks}, api.ErrNotNull},
		{nil, rows{of(num(4), null), of(num(4), null), lacks}, api.ErrNotNull},
		{nil, rows{of(num(4), text("a")), lacks, of(num(5), null)}, api.ErrNotNull},
	} {
		inEach(t, func(t *testing.T, parts int) {
			s, w := three(t, parts)
			mustChange(t, w, 0, c.out, c.in, c.want)
			mustHave(t, s, rows{of(num(1), null), of(num(2), text("a")), of(num(3), null)})
			mustTell(t, "Scan", w.Scan(0, 0, "", ""), rows{of(num(1), null), of(num(3), null), of(num(2), text("a"))})
			// What was refused is nothing to take back: what another work does meanwhile stays.
			v := s.Begin()
			mustChange(t, v, 0, nil, rows{of(num(4), null), of(num(5), null), of(num(6), text("b")), of(num(9), null)}, api.OK)
			w.Undo()
			mustHave(t, s, rows{of(num(4), null), of(num(5), null), of(num(6), text("b")), of(num(9), null)})
			if t.Failed() {
				t.Errorf("case %d", i)
			}
		})
	}
}

func TestS8NoSuchTable(t *testing.T) {
	s := mustNew(t, some(), 2)
	w := s.Begin()
	for _, place := range []int{-1, 3, math.MinInt, math.MaxInt} {
		mustChange(t, w, place, nil, nil, api.ErrArg)
		mustChange(t, w, place, nil, rows{of(num(1), null)}, api.ErrArg)
		mustChange(t, w, place, nil, rows{of(null, null)}, api.ErrArg)
	}
	mustHave(t, s, nil, nil, nil)
}

func TestS8Over(t *testing.T) {
	for _, end := range []func(*table.Work){(*table.Work).Undo, (*table.Work).Done} {
		s := mustNew(t, some(), 2)
		w := s.Begin()
		end(w)
		mustChange(t, w, 0, nil, nil, api.ErrArg)
		mustChange(t, w, 0, nil, rows{of(num(1), null)}, api.ErrArg)
		mustChange(t, w, 0, nil, rows{of(null, null)}, api.ErrArg)
		mustHave(t, s, nil, nil, nil)
	}
}

// Each column's NotNull and Type is its own.
func TestS8EachColumn(t *testing.T) {
	r := someWide()[6]
	for i, c := range wide().Columns {
		for _, v := range []api.Value{null, num(1), truth(1), text("q")} {
			want := api.ErrArg
			switch {
			case v.Kind == c.Type:
				want = api.OK
			case v == null && c.NotNull:
				want = api.ErrNotNull
			case v == null:
				want = api.OK
			}
			changed := slices.Clone(r)
			changed[i] = v
			for _, parts := range []int{1, 16} {
				s := mustNew(t, some(), parts)
				mustChange(t, s.Begin(), 1, nil, rows{changed}, want)
				if e := s.Load(api.State{Tables: []rows{nil, {changed}, nil}}); e != want {
					t.Errorf("Load of %v: %d; want %d", changed, e, want)
				}
			}
		}
	}
}

// Rows meet in all columns of an index or not at all, and NULL meets nothing.
func TestS8Meet(t *testing.T) {
	base := of(num(1), text("k"), truth(1), num(5), text("x"))
	for _, c := range []struct {
		r    []api.Value
		want api.Errno
	}{
		{of(num(2), text("k"), truth(1), num(5), text("x")), api.ErrUnique},
		{of(num(2), text("k"), truth(1), num(6), text("x")), api.OK},
		{of(num(2), text("k"), truth(1), num(5), text("y")), api.OK},
		{of(num(2), text("k"), truth(1), null, text("x")), api.OK},
		{of(num(1), text("l"), truth(1), num(6), text("y")), api.ErrUnique},
		{of(num(1), text("l"), truth(0), num(6), text("y")), api.OK},
		{of(num(1), text("l"), null, num(6), text("y")), api.OK},
		{of(num(1), text("l"), null, num(5), text("x")), api.ErrUnique},
		{of(num(1), text("k"), null, num(6), text("y")), api.ErrUnique},
		{of(num(1), text("kk"), null, num(6), text("y")), api.OK},
	} {
		inEach(t, func(t *testing.T, parts int) {
			s := mustNew(t, some(), parts)
			w := s.Begin()
			mustChange(t, w, 1, nil, rows{base}, api.OK)
			mustChange(t, w, 1, nil, rows{c.r}, c.want)
			// The same of two that come together, and of a state.
			w.Undo()
			mustChange(t, s.Begin(), 1, nil, rows{c.r, base}, c.want)
			s = mustNew(t, some(), parts)
			if e := s.Load(api.State{Tables: []rows{nil, {base, c.r}, nil}}); e != c.want {
				t.Errorf("Load of %v: %d; want %d", c.r, e, c.want)
			}
			// If the one goes, the other one may come.
			s = mustNew(t, some(), parts)
			w = s.Begin()
			mustChange(t, w, 1, nil, rows{base}, api.OK)
			mustChange(t, w, 1, rows{base}, rows{c.r}, api.OK)
			mustHave(t, s, nil, rows{c.r}, nil)
		})
	}
}

// Two rows that are NULL in a column of an index never meet, whatever else they have.
func TestS8NullsDoNotMeet(t *testing.T) {
	inEach(t, func(t *testing.T, parts int) {
		s := mustNew(t, some(), parts)
		w := s.Begin()
		var l rows
		for i := range 20 {
			l = append(l, of(num(i), text("k"), null, null, text("x")))
		}
		mustChange(t, w, 1, nil, l[:10], api.OK)
		mustChange(t, w, 1, nil, l[10:], api.OK)
		mustHave(t, s, nil, l, nil)
		mustChange(t, w, 1, l[3:4], l[3:4], api.OK)
		for index := -1; index < 4; index++ {
			mustTell(t, "Scan", w.Scan(1, index, "", ""), sorted(t, wide(), index, l))
		}
	})
}

// A value that another one begins is another one.
func TestS8Beginnings(t *testing.T) {
	inEach(t, func(t *testing.T, parts int) {
		s := mustNew(t, ofTables(small()), parts)
		w := s.Begin()
		for i, v := range []string{"", "\x00", "\x00\x00", "a", "a\x00", "aa", "\x00\xff", "\xff", "\xff\xff"} {
			mustChange(t, w, 0, nil, rows{of(num(i), text(v))}, api.OK)
			mustChange(t, w, 0, nil, rows{of(num(100+i), text(v))}, api.ErrUnique)
		}
		if n := len(s.State().Tables[0]); n != 9 {
			t.Errorf("%d rows", n)
		}
	})
}

// All rows are moved by one at one stroke, as an update of a key does.
func TestS8ManyRowsMove(t *testing.T) {
	for _, parts := range []int{1, 4, 16} {
		s := mustNew(t, ofTables(small()), parts)
		var old, moved rows
		for i := range 2000 {
			v := text(strings.Repeat("v", i%60) + string(rune('A'+i/60)))
			old = append(old, of(num(i), v))
			moved = append(moved, of(num(i+1), v))
		}
		mustChange(t, s.Begin(), 0, nil, old, api.OK)
		w := s.Begin()
		mustChange(t, w, 0, old[1:], moved, api.ErrUnique)
		mustChange(t, w, 0, old, moved, api.OK)
		mustHave(t, s, moved)
		mustTell(t, "Scan", w.Scan(0, 0, "", ""), sorted(t, small(), 0, moved))
		w.Undo()
		mustHave(t, s, old)
	}
}

func TestS9UndoLastFirst(t *testing.T) {
	inEach(t, func(t *testing.T, parts int) {
		s := mustNew(t, ofTables(small()), parts)
		base := rows{of(num(1), text("a")), of(num(2), null)}
		mustChange(t, s.Begin(), 0, nil, base, api.OK)
		w := s.Begin()
		mustChange(t, w, 0, rows{of(num(1), null)}, rows{of(num(1), text("b"))}, api.OK)
		mustChange(t, w, 0, rows{of(num(1), null)}, nil, api.OK)
		mustChange(t, w, 0, nil, rows{of(num(3), text("a")), of(num(1), text("c"))}, api.OK)
		mustChange(t, w, 0, rows{of(num(3), null), of(num(2), null)}, rows{of(num(2), text("a")), of(num(3), text("b"))}, api.OK)
		w.Undo()
		mustHave(t, s, base)
		v := s.Begin()
		mustTell(t, "Scan", v.Scan(0, 0, "", ""), rows{base[1], base[0]})
		mustChange(t, v, 0, nil, rows{of(num(3), text("b")), of(num(4), text("c"))}, api.OK)
		mustChange(t, v, 0, nil, rows{of(num(5), text("a"))}, api.ErrUnique)
	})
}

func TestS9Done(t *testing.T) {
	s := mustNew(t, ofTables(small()), 3)
	w := s.Begin()
	want := rows{of(num(1), text("a"))}
	mustChange(t, w, 0, nil, want, api.OK)
	w.Done()
	if !w.Over() {
		t.Errorf("Done: not over")
	}
	for range 2 {
		w.Undo()
		mustHave(t, s, want)
		w.Done()
		mustHave(t, s, want)
		if !w.Over() {
			t.Errorf("not over")
		}
	}
}

// A second Undo takes back nothing of what was done meanwhile.
func TestS9UndoTwice(t *testing.T) {
	s := mustNew(t, ofTables(small()), 3)
	w := s.Begin()
	mustChange(t, w, 0, nil, rows{of(num(1), text("a"))}, api.OK)
	w.Undo()
	mustHave(t, s, nil)
	if !w.Over() {
		t.Errorf("Undo: not over")
	}
	want := rows{of(num(1), text("b"))}
	mustChange(t, s.Begin(), 0, nil, want, api.OK)
	w.Undo()
	w.Done()
	w.Undo()
	mustHave(t, s, want)
}

func TestS9UndoOfNothing(t *testing.T) {
	s, v := three(t, 2)
	v.Done()
	want := s.State().Tables[0]
	w := s.Begin()
	w.Undo()
	mustHave(t, s, want)
	w = s.Begin()
	mustChange(t, w, 0, nil, nil, api.OK)
	w.Undo()
	mustHave(t, s, want)
}

// What a work brought is gone, whatever stands there now; what it took stands again, in the place of what stands there now.
func TestS9UndoBesideOthers(t *testing.T) {
	a, b, c := text("a"), text("b"), text("c")
	for i, x := range []struct {
		own, others [][2]rows
		want        rows
	}{
		// The row that was brought is another one now.
		{[][2]rows{{nil, {of(num(3), a)}}}, [][2]rows{{{of(num(3), a)}, {of(num(3), b)}}}, rows{of(num(1), null), of(num(2), null)}},
		// It is gone already.
		{[][2]rows{{nil, {of(num(3), a)}}}, [][2]rows{{{of(num(3), a)}, nil}}, rows{of(num(1), null), of(num(2), null)}},
		// It has moved to another key, where it stays.
		{[][2]rows{{nil, {of(num(3), a)}}}, [][2]rows{{{of(num(3), a)}, {of(num(4), a)}}}, rows{of(num(1), null), of(num(2), null), of(num(4), a)}},
		// Under the key of one that was taken stands another one now.
		{[][2]rows{{{of(num(1), null)}, nil}}, [][2]rows{{nil, {of(num(1), c)}}}, rows{of(num(1), null), of(num(2), null)}},
		// One was changed, and then by another work.
		{[][2]rows{{{of(num(1), null)}, {of(num(1), a)}}}, [][2]rows{{{of(num(1), null)}, {of(num(1), b)}}}, rows{of(num(1), null), of(num(2), null)}},
		{[][2]rows{{{of(num(1), null)}, {of(num(1), a)}}}, [][2]rows{{{of(num(1), null)}, nil}}, rows{of(num(1), null), of(num(2), null)}},
		// What others did under other keys stays.
		{[][2]rows{{{of(num(1), null)}, {of(num(3), a)}}}, [][2]rows{{{of(num(2), null)}, {of(num(2), b), of(num(5), null)}}}, rows{of(num(1), null), of(num(2), b), of(num(5), null)}},
		{[][2]rows{{{of(num(1), null)}, nil}, {nil, {of(num(1), a)}}}, [][2]rows{{{of(num(1), a)}, {of(num(4), a)}}}, rows{of(num(1), null), of(num(2), null), of(num(4), a)}},
	} {
		inEach(t, func(t *testing.T, parts int) {
			s := mustNew(t, ofTables(small()), parts)
			mustChange(t, s.Begin(), 0, nil, rows{of(num(1), null), of(num(2), null)}, api.OK)
			w, v := s.Begin(), s.Begin()
			for _, c := range x.own {
				mustChange(t, w, 0, c[0], c[1], api.OK)
			}
			for _, c := range x.others {
				mustChange(t, v, 0, c[0], c[1], api.OK)
			}
			w.Undo()
			mustHave(t, s, x.want)
			mustTell(t, "Scan", v.Scan(0, 0, "", ""), sorted(t, small(), 0, x.want))
			mustDigest(t, s, 0, x.want)
			if v.Over() {
				t.Errorf("another work is over")
			}
			if t.Failed() {
				t.Errorf("case %d", i)
			}
		})
	}
}

// What stands again may meet what others brought: both stay, and both are seen by what comes later.
func TestS9UndoMayMeet(t *testing.T) {
	inEach(t, func(t *testing.T, parts int) {
		s := mustNew(t, ofTables(small()), parts)
		mustChange(t, s.Begin(), 0, nil, rows{of(num(1), text("a")), of(num(2), null)}, api.OK)
		w, v := s.Begin(), s.Begin()
		mustChange(t, w, 0, rows{of(num(1), null)}, nil, api.OK)
		mustChange(t, v, 0, rows{of(num(2), null)}, rows{of(num(2), text("a"))}, api.OK)
		w.Undo()
		both := rows{of(num(1), text("a")), of(num(2), text("a"))}
		mustHave(t, s, both)
		mustTell(t, "Scan", v.Scan(0, 0, "", ""), both)
		mustChange(t, v, 0, nil, rows{of(num(3), text("a"))}, api.ErrUnique)
		mustChange(t, v, 0, both[:1], rows{of(num(3), text("a"))}, api.ErrUnique)
		mustChange(t, v, 0, both[1:], rows{of(num(3), text("a"))}, api.ErrUnique)
		// Two that stay may meet; just what comes is asked.
		mustChange(t, v, 0, nil, rows{of(num(3), text("b"))}, api.OK)
		mustHave(t, s, append(both, of(num(3), text("b"))))
		if e := s.Load(s.State()); e != api.ErrUnique {
			t.Errorf("Load of what meets: %d", e)
		}
		mustChange(t, v, 0, both, rows{of(num(4), text("a"))}, api.OK)
		v.Undo()
		mustHave(t, s, rows{of(num(1), text("a")), of(num(2), null)})
	})
}

// One work's changes of several tables are all taken back.
func TestS9SeveralTables(t *testing.T) {
	s := mustNew(t, some(), 4)
	w := s.Begin()
	l := someWide()
	mustChange(t, s.Begin(), 1, nil, l[:4], api.OK)
	mustChange(t, w, 0, nil, rows{of(num(1), null)}, api.OK)
	mustChange(t, w, 1, l[2:4], l[4:], api.OK)
	mustChange(t, w, 0, rows{of(num(1), null)}, rows{of(num(2), null)}, api.OK)
	mustHave(t, s, rows{of(num(2), null)}, slices.Concat(l[:2], l[4:]), nil)
	w.Undo()
	mustHave(t, s, nil, l[:4], nil)
}
