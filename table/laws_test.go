package table_test

import (
	"slices"
	"strings"
	"testing"
	"unsafe"

	"unison/api"
	"unison/key"
	"unison/table"
	"unison/value"
)

// plain is a store as the chapter's words tell it: lists of rows, and loops over them.
type plain struct {
	c      api.Catalog
	tables []rows
	works  []*plainWork
}

type plainWork struct {
	over bool
	done []plainChange
}

// plainChange is the rows that a change took, and those that it brought.
type plainChange struct {
	place      int
	took, came rows
}

func newPlain(c api.Catalog) *plain { return &plain{c: c, tables: make([]rows, len(c.Tables))} }

func (p *plain) begin() { p.works = append(p.works, &plainWork{}) }

func fits(def api.Table, r []api.Value) bool {
	if len(r) != len(def.Columns) {
		return false
	}
	for i, v := range r {
		if !value.Right(v) || v.Kind != 0 && v.Kind != def.Columns[i].Type {
			return false
		}
	}
	return true
}

func lacks(def api.Table, r []api.Value) bool {
	for i, c := range def.Columns {
		if c.NotNull && r[i] == null {
			return true
		}
	}
	return false
}

func sameKey(def api.Table, a, b []api.Value) bool {
	return slices.Equal(in(a, def.Key), in(b, def.Key))
}

// atOdds tells whether two rows have the same key, or meet.
func atOdds(def api.Table, a, b []api.Value) bool {
	for _, x := range def.Indexes {
		if l := in(a, x.Columns); x.Unique && !slices.Contains(l, null) && slices.Equal(l, in(b, x.Columns)) {
			return true
		}
	}
	return sameKey(def, a, b)
}

// wrong is what is wrong with rows that come to those that stay.
func wrong(def api.Table, come, stay rows) api.Errno {
	for _, r := range come {
		if !fits(def, r) {
			return api.ErrArg
		}
	}
	for _, r := range come {
		if lacks(def, r) {
			return api.ErrNotNull
		}
	}
	for i, r := range come {
		for _, other := range slices.Concat(come[:i], stay) {
			if atOdds(def, r, other) {
				return api.ErrUnique
			}
		}
	}
	return api.OK
}

// placeOf is the place of the row that has the key of another one; -1: there is none.
func placeOf(def api.Table, l rows, r []api.Value) int {
	return slices.IndexFunc(l, func(x []api.Value) bool { return sameKey(def, x, r) })
}

func (p *plain) load(l []rows) api.Errno {
	if len(l) != len(p.tables) {
		return api.ErrArg
	}
	for i, x := range l {
		if e := wrong(p.c.Tables[i], x, nil); e != api.OK {
			return e
		}
	}
	p.tables = nil
	for _, x := range l {
		p.tables = append(p.tables, slices.Clone(x))
	}
	for _, w := range p.works {
		w.over = true
	}
	return api.OK
}

func (p *plain) change(work, place int, out, come rows) api.Errno {
	w := p.works[work]
	if w.over || place < 0 || place >= len(p.tables) {
		return api.ErrArg
	}
	def, stay := p.c.Tables[place], slices.Clone(p.tables[place])
	var took rows
	for _, r := range out {
		if !fits(def, r) {
			return api.ErrArg
		}
		i := placeOf(def, stay, r)
		if i < 0 {
			return api.ErrArg
		}
		took = append(took, stay[i])
		stay = slices.Delete(stay, i, i+1)
	}
	if e := wrong(def, come, stay); e != api.OK {
		return e
	}
	p.tables[place] = append(stay, come...)
	w.done = append(w.done, plainChange{place, took, come})
	return api.OK
}

func (p *plain) undo(work int) {
	w := p.works[work]
	if w.over {
		return
	}
	for _, c := range slices.Backward(w.done) {
		def, l := p.c.Tables[c.place], slices.Clone(p.tables[c.place])
		for _, r := range slices.Concat(c.came, c.took) {
			if i := placeOf(def, l, r); i >= 0 {
				l = slices.Delete(l, i, i+1)
			}
		}
		p.tables[c.place] = append(l, c.took...)
	}
	w.over = true
}

// scan is rows in the order of values; what lies between is asked of bytes.
func (p *plain) scan(t testing.TB, place, index int, lo, hi string) rows {
	t.Helper()
	def := p.c.Tables[place]
	columns := def.Key
	if index >= 0 {
		columns = slices.Concat(def.Indexes[index].Columns, def.Key)
	}
	var l rows
	for _, r := range p.tables[place] {
		if s := sortKey(t, def, index, r); s >= lo && (hi == "" || s < hi) {
			l = append(l, r)
		}
	}
	slices.SortFunc(l, func(a, b []api.Value) int { return key.Order(in(a, columns), in(b, columns)) })
	return l
}

// both are a plain store and a true one, with the same works.
type both struct {
	p     *plain
	s     *table.Store
	works []*table.Work
}

func newBoth(t testing.TB, c api.Catalog, parts int) *both {
	t.Helper()
	return &both{p: newPlain(c), s: mustNew(t, c, parts)}
}

func (b *both) begin() {
	b.p.begin()
	b.works = append(b.works, b.s.Begin())
}

func (b *both) change(t testing.TB, work, place int, out, come rows) {
	t.Helper()
	want := b.p.change(work, place, out, come)
	if got := b.works[work].Change(place, out, come); got != want {
		t.Fatalf("Change(%d, %v, %v) = %d; want %d", place, out, come, got, want)
	}
}

func (b *both) undo(work int) {
	b.p.undo(work)
	b.works[work].Undo()
}

func (b *both) done(work int) {
	b.p.works[work].over = true
	b.works[work].Done()
}

func (b *both) load(t testing.TB, l []rows) {
	t.Helper()
	want := b.p.load(l)
	if got := b.s.Load(api.State{Tables: l}); got != want {
		t.Fatalf("Load(%v) = %d; want %d", l, got, want)
	}
}

// same holds all that the true store tells against what the plain one does.
func (b *both) same(t testing.TB) {
	t.Helper()
	var want []rows
	for place := range b.p.tables {
		want = append(want, b.p.scan(t, place, -1, "", ""))
		mustDigest(t, b.s, place, want[place])
	}
	mustHave(t, b.s, want...)
	fresh := b.s.Begin()
	for i, w := range append(b.works, fresh) {
		over := w != fresh && b.p.works[i].over
		if w.Over() != over {
			t.Errorf("work %d: Over = %t; want %t", i, w.Over(), over)
		}
		for place, l := range want {
			b.seen(t, w, over, place, l)
		}
	}
	if t.Failed() {
		t.Fatalf("in %d partitions, of %v", b.s.Parts(), want)
	}
}

// seen holds what a work sees of a table against its rows.
func (b *both) seen(t testing.TB, w *table.Work, over bool, place int, l rows) {
	t.Helper()
	def := b.p.c.Tables[place]
	for _, r := range l {
		got, ok := w.Get(place, in(r, def.Key)...)
		if ok == over || !over && !slices.Equal(got, r) || over && len(got) > 0 {
			t.Errorf("Get of %v = %v, %t", r, got, ok)
		}
	}
	for index := -1; index < len(def.Indexes); index++ {
		want := b.p.scan(t, place, index, "", "")
		if over {
			want = nil
		}
		mustTell(t, "Scan", w.Scan(place, index, "", ""), want)
	}
}

// lists are all lists of at most two of some rows.
func lists(l rows) []rows {
	out := []rows{nil}
	for _, a := range l {
		out = append(out, rows{a})
		for _, b := range l {
			out = append(out, rows{a, b})
		}
	}
	return out
}

// All changes of at most two rows that go and two that come, right and wrong ones, of all states of at most two rows.
func TestS8AllSmallChanges(t *testing.T) {
	a, b := text("a"), text("b")
	choices := lists(rows{of(num(1), null), of(num(1), a), of(num(2), a), of(num(2), b), of(null, a), of(num(3))})
	for _, parts := range []int{1, 2, 3} {
		for _, start := range choices {
			if wrong(small(), start, nil) != api.OK {
				continue
			}
			for _, out := range choices {
				x := newBoth(t, ofTables(small()), parts)
				for n, come := range choices {
					x.begin()
					if n%8 == 0 || len(x.p.tables[0]) != len(start) {
						x.load(t, []rows{start})
						x.begin()
					}
					last := len(x.works) - 1
					x.change(t, last, 0, out, come)
					mustHave(t, x.s, x.p.scan(t, 0, -1, "", ""))
					x.undo(last)
					mustHave(t, x.s, sorted(t, small(), -1, start))
					if t.Failed() {
						t.Fatalf("%v, of which %v go, and %v come", start, out, come)
					}
				}
			}
		}
	}
}

// All runs of four calls of two works: what they do to the same two keys, and the one value that two rows must not have.
func TestS9AllShortRuns(t *testing.T) {
	a, b := text("a"), text("b")
	one, two := of(num(1), null), of(num(2), null)
	changes := [][2]rows{
		{nil, {of(num(1), a)}},
		{nil, {of(num(2), a)}},
		{{one}, nil},
		{{one}, {of(num(1), b)}},
		{{one}, {of(num(2), a)}},
		{{one, two}, {of(num(2), null), of(num(1), a)}},
	}
	calls := 2 * (len(changes) + 2)
	runs := calls * calls * calls * calls
	for i := range runs {
		x := newBoth(t, ofTables(small()), 1+i%3)
		x.load(t, []rows{{of(num(1), a)}})
		x.begin()
		x.begin()
		for n := i; n > 0; n /= calls {
			work, what := n%calls%2, n%calls/2
			switch {
			case what < len(changes):
				x.change(t, work, 0, changes[what][0], changes[what][1])
			case what == len(changes):
				x.undo(work)
			default:
				x.done(work)
			}
		}
		x.same(t)
		if t.Failed() {
			t.Fatalf("run %d", i)
		}
	}
}

// dice tells numbers that look drawn, and are the same each time.
type dice struct{ state uint64 }

func (d *dice) draw(n int) int {
	d.state = d.state*6364136223846793005 + 1442695040888963407
	return int(d.state>>33) % n
}

// value is one of few of a type, NULL too.
func (d *dice) value(kind int) api.Value {
	switch n := d.draw(7); {
	case n == 0:
		return null
	case kind == api.Int:
		return num(n - 3)
	case kind == api.Bool:
		return truth(n % 2)
	}
	return text(strings.Repeat("\x00", d.draw(3)) + "abc"[:d.draw(3)])
}

// row is one of few of a table; at times it does not fit, or lacks a value.
func (d *dice) row(def api.Table) []api.Value {
	var r []api.Value
	for _, c := range def.Columns {
		v := d.value(c.Type)
		for c.NotNull && v == null && d.draw(60) > 0 {
			v = d.value(c.Type)
		}
		r = append(r, v)
	}
	if d.draw(60) == 0 {
		r[d.draw(len(r))] = []api.Value{{Kind: api.Int, Int: 1, Text: "x"}, truth(2), text(strings.Repeat("x", 65)), truth(1), num(1), text("y")}[d.draw(6)]
	}
	if d.draw(100) == 0 {
		r = r[1:]
	}
	return r
}

// changeOf is rows that go, most of which are there, and rows that come.
func (d *dice) changeOf(def api.Table, there rows) (out, come rows) {
	for range d.draw(4) {
		if len(there) == 0 || d.draw(20) == 0 {
			out = append(out, d.row(def))
			continue
		}
		r := slices.Clone(there[d.draw(len(there))])
		out = append(out, r)
		if d.draw(2) == 0 {
			changed := slices.Clone(r)
			i := d.draw(len(r))
			changed[i] = d.value(def.Columns[i].Type)
			come = append(come, changed)
		}
	}
	for range d.draw(3) {
		come = append(come, d.row(def))
	}
	return out, come
}

// play does what the dice say.
func (b *both) play(t testing.TB, d *dice) {
	t.Helper()
	switch n := d.draw(40); {
	case n < 3 || len(b.works) == 0:
		b.begin()
	case n == 3:
		b.undo(d.draw(len(b.works)))
	case n == 4:
		b.done(d.draw(len(b.works)))
	case n == 5 && d.draw(4) == 0:
		var l []rows
		for _, def := range b.p.c.Tables {
			var x rows
			for range d.draw(5) {
				x = append(x, d.row(def))
			}
			l = append(l, x)
		}
		b.load(t, l)
	case n < 10:
		place := d.draw(len(b.p.tables))
		def := b.p.c.Tables[place]
		index := d.draw(len(def.Indexes)+1) - 1
		lo, hi := d.bound(t, def, index), d.bound(t, def, index)
		mustTell(t, "Scan", b.s.Begin().Scan(place, index, lo, hi), b.p.scan(t, place, index, lo, hi))
	default:
		place := d.draw(len(b.p.tables))
		out, come := d.changeOf(b.p.c.Tables[place], b.p.tables[place])
		// The last few works are mostly those that are not over.
		b.change(t, len(b.works)-1-d.draw(min(3, len(b.works))), place, out, come)
	}
}

// bound is a beginning of what some row's sort key could be.
func (d *dice) bound(t testing.TB, def api.Table, index int) string {
	t.Helper()
	if d.draw(4) == 0 {
		return ""
	}
	columns := def.Key
	if index >= 0 {
		columns = slices.Concat(def.Indexes[index].Columns, def.Key)
	}
	var s string
	for _, c := range columns[:1+d.draw(len(columns))] {
		s += mustKey(t, d.value(def.Columns[c].Type))
	}
	return s[:len(s)-d.draw(2)]
}

// Long runs of all calls, each the same every time, in every number of partitions.
func TestS10LongRuns(t *testing.T) {
	for parts := 1; parts <= 16; parts++ {
		b := newBoth(t, ofTables(small(), wide()), parts)
		d := &dice{state: uint64(parts)}
		for i := range 1200 {
			b.play(t, d)
			if len(b.works) > 6 {
				// Those that were begun first are left behind, over or not.
				b.works, b.p.works = b.works[1:], b.p.works[1:]
			}
			if i%5 == 0 {
				b.same(t)
			}
		}
		b.same(t)
	}
}

// A run as long as the fuzzer likes.
func FuzzS10(f *testing.F) {
	f.Add(3, uint64(1), 100)
	f.Add(16, uint64(99), 400)
	f.Fuzz(func(t *testing.T, parts int, state uint64, long int) {
		b := newBoth(t, ofTables(small(), wide()), 1+int(uint(parts)%16))
		d := &dice{state: state}
		for range min(max(long, 0), 500) {
			b.play(t, d)
		}
		b.same(t)
	})
}

// The same calls of stores with other partitions, and other indexes that are not Unique, tell the same.
func TestS10PartitionsAndIndexes(t *testing.T) {
	bare := wide()
	bare.Indexes = []api.Index{bare.Indexes[1], bare.Indexes[3]}
	more := wide()
	more.Part = 1
	more.Indexes = []api.Index{more.Indexes[1], more.Indexes[3], {Name: "one", Columns: []int{4}}, {Name: "two", Columns: []int{0, 1, 2, 3, 4}}}
	model := newBoth(t, ofTables(bare), 1)
	var others []*table.Store
	for parts := 1; parts <= 16; parts++ {
		for _, def := range []api.Table{bare, more} {
			others = append(others, mustNew(t, ofTables(def), parts))
		}
	}
	d := &dice{state: 12345}
	for range 60 {
		model.begin()
		last := len(model.works) - 1
		works := make([]*table.Work, len(others))
		for i, s := range others {
			works[i] = s.Begin()
		}
		for range 8 {
			out, come := d.changeOf(bare, model.p.tables[0])
			want := model.works[last].Change(0, out, come)
			model.p.change(last, 0, out, come)
			for i, w := range works {
				if got := w.Change(0, out, come); got != want {
					t.Fatalf("store %d: Change = %d; want %d", i, got, want)
				}
			}
		}
		undo := d.draw(2) == 0
		if undo {
			model.undo(last)
		}
		state := model.s.State().Tables[0]
		re, im := model.s.Digest(0)
		for i, s := range others {
			if undo {
				works[i].Undo()
			}
			mustHave(t, s, state)
			if gotRe, gotIm := s.Digest(0); gotRe != re || gotIm != im {
				t.Fatalf("store %d: Digest = %d, %d; want %d, %d", i, gotRe, gotIm, re, im)
			}
			for index := range 2 {
				mustTell(t, "Scan", s.Begin().Scan(0, index, "", ""), model.s.Begin().Scan(0, index, "", ""))
			}
		}
	}
}

// A work among whose changes no other one changed anything leaves the state as it was.
func TestS10UndoLeavesTheState(t *testing.T) {
	d := &dice{state: 7}
	for round := range 300 {
		b := newBoth(t, ofTables(small(), wide()), 1+round%16)
		b.begin()
		for range 12 {
			place := d.draw(2)
			out, come := d.changeOf(b.p.c.Tables[place], b.p.tables[place])
			b.change(t, 0, place, out, come)
		}
		was := b.s.State()
		re, im := b.s.Digest(1)
		b.begin()
		for range 12 {
			place := d.draw(2)
			out, come := d.changeOf(b.p.c.Tables[place], b.p.tables[place])
			b.change(t, 1, place, out, come)
		}
		b.undo(1)
		mustHave(t, b.s, was.Tables...)
		if gotRe, gotIm := b.s.Digest(1); gotRe != re || gotIm != im {
			t.Errorf("Digest = %d, %d; want %d, %d", gotRe, gotIm, re, im)
		}
		b.same(t)
	}
}

// Stores that came to the same rows in other ways have the same digests.
func TestS10SameRowsSameDigests(t *testing.T) {
	l := someWide()
	loaded, changed := mustNew(t, some(), 3), mustNew(t, some(), 11)
	if e := loaded.Load(api.State{Tables: []rows{nil, l, nil}}); e != api.OK {
		t.Fatalf("Load: %d", e)
	}
	w := changed.Begin()
	mustChange(t, w, 1, nil, l[6:], api.OK)
	mustChange(t, w, 1, l[8:], nil, api.OK)
	mustChange(t, w, 1, nil, scrambled(l[8:], 2), api.OK)
	mustChange(t, w, 1, nil, l[:6], api.OK)
	for place := range 3 {
		re, im := loaded.Digest(place)
		if gotRe, gotIm := changed.Digest(place); gotRe != re || gotIm != im {
			t.Errorf("Digest(%d) = %d, %d; want %d, %d", place, gotRe, gotIm, re, im)
		}
	}
}

// spoil makes other values of all that a list of rows has.
func spoil(l rows) {
	for _, r := range l {
		for i := range r {
			r[i] = num(-77)
		}
	}
}

// What was answered may be changed, and the store does not see it.
func TestR5WhatIsAnswered(t *testing.T) {
	s := mustNew(t, some(), 3)
	w := s.Begin()
	l := someWide()
	mustChange(t, w, 1, nil, l, api.OK)
	x := s.State()
	spoil(x.Tables[1])
	clear(x.Tables)
	spoil(w.Scan(1, -1, "", ""))
	spoil(w.Scan(1, 2, "", ""))
	r, _ := w.Get(1, l[3][1], l[3][0])
	spoil(rows{r})
	mustHave(t, s, nil, someWide(), nil)
	for range 2 {
		for _, c := range []api.Catalog{s.Catalog(), w.Catalog()} {
			c.Tables[1].Columns[2].Type, c.Tables[1].Key[0], c.Tables[1].Indexes[1].Columns[0] = 9, 9, 9
			c.Tables[0], c.Procs[0].Body[0], c.Procs[0].Params[0].Name = api.Table{}, "z", "z"
		}
		if !sameCatalog(s.Catalog(), some()) || !sameCatalog(w.Catalog(), some()) {
			t.Errorf("Catalog() = %v, %v", s.Catalog(), w.Catalog())
		}
		mustChange(t, w, 1, nil, rows{l[0]}, api.ErrUnique)
	}
	w.Undo()
	mustHave(t, s, nil, nil, nil)
}

// No two lists of an answer touch, nor does one reach into another one's room.
func TestR5ListsOfAnAnswerAreApart(t *testing.T) {
	s := mustNew(t, ofTables(wide(), small()), 3)
	w := s.Begin()
	mustChange(t, w, 0, nil, someWide(), api.OK)
	mustChange(t, w, 1, nil, rows{of(num(1), null), of(num(2), null)}, api.OK)
	for _, l := range []rows{s.State().Tables[0], w.Scan(0, -1, "", ""), w.Scan(0, 3, "", ""), slices.Concat(s.State().Tables...)} {
		for i, r := range l {
			was := slices.Clone(r)
			for j, other := range l {
				if j != i {
					_ = append(other, num(-77), num(-77))
					spoil(rows{other})
				}
			}
			if !slices.Equal(r, was) {
				t.Errorf("row %d touches another one: %v", i, r)
			}
			spoil(rows{r})
		}
	}
	tables := s.State().Tables
	_ = append(tables[0], of(num(-77)))
	mustTell(t, "the second table", tables[1], rows{of(num(1), null), of(num(2), null)})
}

// roomy is rows with room behind each of them, and behind all, and whether nobody has touched these.
func roomy(l rows) (given rows, untouched func() bool) {
	mark := num(424242)
	var all, long rows
	for _, r := range l {
		long = append(long, append(slices.Clone(r), mark, mark))
		all = append(all, long[len(long)-1][:len(r)])
	}
	all = append(all, of(mark), of(mark))
	return all[:len(l)], func() bool {
		for i, r := range l {
			if !slices.Equal(long[i], append(slices.Clone(r), mark, mark)) {
				return false
			}
		}
		return same(all, append(slices.Clone(l), of(mark), of(mark)))
	}
}

// What is handed in stays as it is, its spare room too; nor does the store see it when it changes later.
func TestR5WhatIsHandedIn(t *testing.T) {
	c := some()
	s := mustNew(t, c, 3)
	c.Tables[1].Columns[2].Type, c.Tables[1].Key[0], c.Tables[1].Indexes[1].Columns[0], c.Procs[0].Body[0] = 9, 9, 9, "z"
	c.Tables[0] = api.Table{}
	if !sameCatalog(s.Catalog(), some()) || !sameCatalog(s.Begin().Catalog(), some()) {
		t.Errorf("the catalog was kept")
	}
	l, untouched := roomy(scrambled(someWide(), 3))
	x := api.State{Tables: []rows{nil, l, nil}}
	if e := s.Load(x); e != api.OK || !untouched() {
		t.Errorf("Load: %d; untouched %t", e, untouched())
	}
	spoil(l)
	clear(x.Tables)
	mustHave(t, s, nil, someWide(), nil)
	w := s.Begin()
	out, outUntouched := roomy(someWide()[2:9])
	come, comeUntouched := roomy(rows{of(num(70), text("new"), truth(1), num(3), text("x")), someWide()[5]})
	mustChange(t, w, 1, out, come, api.OK)
	k := append(make([]api.Value, 0, 9), text("new"), num(70))
	w.Get(1, k...)
	if !outUntouched() || !comeUntouched() || k[:3][2] != null {
		t.Errorf("what was handed in is %v, %v, %v", out, come, k[:9])
	}
	spoil(out)
	spoil(come)
	want := slices.Concat(someWide()[:2], someWide()[5:6], someWide()[9:11], rows{of(num(70), text("new"), truth(1), num(3), text("x"))}, someWide()[11:])
	mustHave(t, s, nil, want, nil)
	w.Undo()
	mustHave(t, s, nil, someWide(), nil)
}

// A text whose bytes change behind a call tells whether it was kept.
func TestR5TextsAreNotKept(t *testing.T) {
	room := []byte("keyaoldbnewc")
	piece := func(at int) api.Value { return text(unsafe.String(&room[at], 4)) }
	def := small()
	def.Columns[0].Type = api.Text
	s := mustNew(t, ofTables(def), 5)
	v := s.Begin()
	mustChange(t, v, 0, nil, rows{of(piece(0), piece(4))}, api.OK)
	w := s.Begin()
	mustChange(t, w, 0, rows{of(piece(0), null)}, rows{of(piece(8), piece(4))}, api.OK)
	clear(room)
	mustHave(t, s, rows{of(text("newc"), text("oldb"))})
	w.Undo()
	mustHave(t, s, rows{of(text("keya"), text("oldb"))})
	mustTell(t, "Scan", v.Scan(0, 0, "", ""), rows{of(text("keya"), text("oldb"))})
	copy(room, "loadtext")
	if e := s.Load(api.State{Tables: []rows{{of(piece(0), piece(4))}}}); e != api.OK {
		t.Errorf("Load: %d", e)
	}
	clear(room)
	mustHave(t, s, rows{of(text("load"), text("text"))})
}

// Two stores have nothing in common, though they were made of one catalog, and loaded with one state.
func TestR6StoresAreApart(t *testing.T) {
	c := some()
	x := api.State{Tables: []rows{{of(num(1), null)}, someWide(), nil}}
	one, other := mustNew(t, c, 3), mustNew(t, c, 3)
	for _, s := range []*table.Store{one, other} {
		if e := s.Load(x); e != api.OK {
			t.Fatalf("Load: %d", e)
		}
	}
	v, w := one.Begin(), other.Begin()
	mustChange(t, v, 1, someWide(), nil, api.OK)
	mustHave(t, other, x.Tables...)
	if e := one.Load(x); e != api.OK || !v.Over() || w.Over() {
		t.Errorf("Load: %d; Over %t, %t", e, v.Over(), w.Over())
	}
}
