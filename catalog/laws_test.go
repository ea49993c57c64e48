package catalog_test

import (
	"encoding/binary"
	"regexp"
	"slices"
	"strings"
	"testing"
	"unsafe"

	"unison/api"
	"unison/catalog"
)

// What follows tells by plain loops what the chapter's section 'What may be' asks.

var namePattern = regexp.MustCompile(`\A[a-z][a-z0-9_]{0,15}\z`)

func plainNames(l []string) bool {
	for i, s := range l {
		if !namePattern.MatchString(s) || slices.Contains(l[:i], s) {
			return false
		}
	}
	return true
}

func plainTypes(l []int) bool {
	return !slices.ContainsFunc(l, func(n int) bool { return n != 1 && n != 2 && n != 3 })
}

func plainPlaces(l []int, columns int) bool {
	for i, n := range l {
		if n < 0 || n >= columns || slices.Contains(l[:i], n) {
			return false
		}
	}
	return len(l) >= 1 && len(l) <= 8
}

func plainTable(t api.Table) bool {
	var names, indexes []string
	var types []int
	for _, c := range t.Columns {
		names, types = append(names, c.Name), append(types, c.Type)
	}
	if len(names) < 1 || len(names) > 16 || !plainPlaces(t.Key, len(names)) || !slices.Contains(t.Key, t.Part) || len(t.Indexes) > 4 {
		return false
	}
	for _, n := range t.Key {
		if !t.Columns[n].NotNull {
			return false
		}
	}
	for _, x := range t.Indexes {
		indexes = append(indexes, x.Name)
		if !plainPlaces(x.Columns, len(names)) {
			return false
		}
	}
	return plainNames([]string{t.Name}) && plainNames(names) && plainTypes(types) && plainNames(indexes)
}

func plainProc(p api.Proc) bool {
	var names []string
	var types []int
	for _, c := range p.Params {
		names, types = append(names, c.Name), append(types, c.Type)
	}
	for _, s := range p.Body {
		if len(s) < 1 || len(s) > 1000 {
			return false
		}
	}
	return plainNames([]string{p.Name}) && plainNames(names) && plainTypes(types) && len(names) <= 8 && len(p.Body) >= 1 && len(p.Body) <= 8 &&
		p.Rows >= 0 && p.Rows <= 1<<20 && p.Bytes >= 0 && p.Bytes <= 1<<20
}

func plainRight(c api.Catalog) bool {
	var tables, procs []string
	for _, t := range c.Tables {
		if !plainTable(t) {
			return false
		}
		tables = append(tables, t.Name)
	}
	for _, p := range c.Procs {
		if !plainProc(p) {
			return false
		}
		procs = append(procs, p.Name)
	}
	return plainNames(tables) && plainNames(procs) && len(tables) <= 8 && len(procs) <= 16
}

// pen lays down a catalog's bytes, whose numbers are those of the library's package binary.
type pen struct{ b []byte }

func (p *pen) nums(l ...int) {
	for _, n := range l {
		p.b = binary.AppendUvarint(p.b, uint64(n))
	}
}

func (p *pen) text(s string) {
	p.nums(len(s))
	p.b = append(p.b, s...)
}

func (p *pen) truth(yes bool) {
	if yes {
		p.nums(1)
	} else {
		p.nums(0)
	}
}

func plainBytes(c api.Catalog) string {
	p := &pen{}
	p.nums(len(c.Tables))
	for _, t := range c.Tables {
		p.text(t.Name)
		p.nums(len(t.Columns))
		for _, c := range t.Columns {
			p.text(c.Name)
			p.nums(c.Type)
			p.truth(c.NotNull)
		}
		p.nums(len(t.Key))
		p.nums(t.Key...)
		p.nums(t.Part, len(t.Indexes))
		for _, x := range t.Indexes {
			p.text(x.Name)
			p.truth(x.Unique)
			p.nums(len(x.Columns))
			p.nums(x.Columns...)
		}
	}
	p.nums(len(c.Procs))
	for _, f := range c.Procs {
		p.text(f.Name)
		p.nums(len(f.Params))
		for _, x := range f.Params {
			p.text(x.Name)
			p.nums(x.Type)
		}
		p.nums(len(f.Body))
		for _, s := range f.Body {
			p.text(s)
		}
		p.nums(f.Rows, f.Bytes)
	}
	return string(p.b)
}

// soundCatalog holds all that is told of a catalog against what the plain loops tell.
func soundCatalog(t *testing.T, c api.Catalog) {
	t.Helper()
	right := plainRight(c)
	mustBeRight(t, "a catalog", c, right)
	if !right {
		return
	}
	s, e := catalog.Encode(c)
	if want := plainBytes(c); s != want || e != api.OK {
		t.Errorf("Encode(%v) = %x, %d; want %x", c, s, e, want)
	}
	if back, e := catalog.Decode(s); !same(back, c) || e != api.OK {
		t.Errorf("Decode of Encode(%v) = %v, %d", c, back, e)
	}
	if again := grown(t, c); !same(again, c) {
		t.Errorf("what is added up to %v comes to %v", c, again)
	}
}

// grown is a right catalog, made by adding one thing of it after the other, tables and procedures by turns.
func grown(t *testing.T, c api.Catalog) api.Catalog {
	t.Helper()
	var all api.Catalog
	var e api.Errno
	for i := range max(len(c.Tables), len(c.Procs)) {
		if i < len(c.Procs) {
			if all, e = catalog.AddProc(all, c.Procs[i]); e != api.OK || !catalog.Right(all) {
				t.Fatalf("AddProc of %v = %v, %d", c.Procs[i], all, e)
			}
		}
		if i < len(c.Tables) {
			if all, e = catalog.AddTable(all, c.Tables[i]); e != api.OK || !catalog.Right(all) {
				t.Fatalf("AddTable of %v = %v, %d", c.Tables[i], all, e)
			}
		}
	}
	return all
}

// rich is a right catalog at every limit at which it may be.
func rich() api.Catalog {
	var c api.Catalog
	for i := range 8 {
		x := api.Table{Name: nth("tabletabletable", i), Columns: columns(16), Key: []int{14, 1, 2, 3, 4, 5, 6, 7}, Part: 7}
		for j := range 4 {
			x.Indexes = append(x.Indexes, api.Index{Name: nth("i", j), Columns: []int{15, 14, 13, 12, j, j + 4, 8, 9}, Unique: j%2 == 0})
		}
		c.Tables = append(c.Tables, x)
	}
	for i := range 16 {
		p := api.Proc{Name: nth("procprocprocpro", i), Params: params(8), Rows: 1<<20 - i, Bytes: i << 16}
		for j := range 8 {
			p.Body = append(p.Body, strings.Repeat(nth("", j), 1000-i))
		}
		c.Procs = append(c.Procs, p)
	}
	return c
}

func TestC6DecodeOfEncode(t *testing.T) {
	for _, w := range written() {
		soundCatalog(t, w.c)
	}
	soundCatalog(t, rich())
	for n := range 9 {
		soundCatalog(t, api.Catalog{Tables: tables(n), Procs: procs(2 * n)})
	}
}

// builder makes a catalog of some bytes: each one chooses something, right or wrong, and 0 the plainest.
type builder struct{ rest []byte }

func (b *builder) next(n int) int {
	if len(b.rest) == 0 {
		return 0
	}
	v := int(b.rest[0]) % n
	b.rest = b.rest[1:]
	return v
}

func (b *builder) name(i int) string {
	l := []string{nth("n", i), nth("n", i), nth("n", i), "na", nth("abcdefghijklmno", i), nth("abcdefghijklmnop", i), "", "_a", "0", "A"}
	return l[b.next(len(l))]
}

func (b *builder) kind() int { return []int{1, 1, 2, 3, 0, 4, -1}[b.next(7)] }

func (b *builder) places(columns int) []int {
	var l []int
	for i := range []int{1, 1, 2, 3, 8, 9, 0}[b.next(7)] {
		l = append(l, []int{i, i, i, columns - 1 - i, 0, columns, -1}[b.next(7)])
	}
	return l
}

func (b *builder) table(i int) api.Table {
	t := api.Table{Name: b.name(i)}
	for i := range []int{1, 2, 3, 8, 16, 17, 0}[b.next(7)] {
		t.Columns = append(t.Columns, api.Column{Name: b.name(i), Type: b.kind(), NotNull: b.next(4) != 1})
	}
	t.Key = b.places(len(t.Columns))
	t.Part = []int{0, 0, 1, 2, len(t.Columns), -1}[b.next(6)]
	for i := range []int{0, 1, 2, 4, 5}[b.next(5)] {
		t.Indexes = append(t.Indexes, api.Index{Name: b.name(i), Unique: b.next(2) == 1, Columns: b.places(len(t.Columns))})
	}
	return t
}

func (b *builder) proc(i int) api.Proc {
	p := api.Proc{Name: b.name(i)}
	for i := range []int{0, 1, 2, 8, 9}[b.next(5)] {
		p.Params = append(p.Params, api.Param{Name: b.name(i), Type: b.kind()})
	}
	for i := range []int{1, 1, 2, 8, 9, 0}[b.next(6)] {
		p.Body = append(p.Body, strings.Repeat(string([]byte{byte(i)}), []int{1, 2, 127, 128, 1000, 1001, 0}[b.next(7)]))
	}
	budgets := []int{0, 1, 127, 128, 16384, 1 << 20, 1<<20 + 1, -1}
	p.Rows, p.Bytes = budgets[b.next(8)], budgets[b.next(8)]
	return p
}

func built(run []byte) api.Catalog {
	b := &builder{rest: run}
	var c api.Catalog
	for i := range []int{1, 0, 2, 3, 8, 9}[b.next(6)] {
		c.Tables = append(c.Tables, b.table(i))
	}
	for i := range []int{1, 0, 2, 3, 16, 17}[b.next(6)] {
		c.Procs = append(c.Procs, b.proc(i))
	}
	return c
}

// Each one, and each two, of the first choices are taken otherwise than plainly.
func TestC1ToC6SmallCatalogs(t *testing.T) {
	const room, ways = 24, 10
	for i := range room {
		for j := range i + 1 {
			for one := range ways {
				for other := range ways {
					run := make([]byte, room)
					run[i], run[j] = byte(one), byte(other)
					soundCatalog(t, built(run))
				}
			}
		}
	}
}

func FuzzC1ToC6(f *testing.F) {
	f.Add([]byte{})
	f.Add([]byte{2, 2, 0, 4})
	f.Add([]byte{0, 0, 0, 2, 0, 2, 0, 0, 0, 0, 3, 0, 1, 1, 0, 0, 2, 0, 3, 0, 4, 5})
	f.Fuzz(func(t *testing.T, run []byte) { soundCatalog(t, built(run)) })
}

// soundDecode tells whether a text is taken for a catalog's bytes; what is taken must be just what Encode tells of what is read.
func soundDecode(t *testing.T, s string) bool {
	t.Helper()
	c, e := catalog.Decode(s)
	if e != api.OK {
		if e != api.ErrCatalog || len(c.Tables) != 0 || len(c.Procs) != 0 {
			t.Fatalf("Decode(%x) = %v, %d", s, c, e)
		}
		return false
	}
	if again, e := catalog.Encode(c); again != s || e != api.OK || !plainRight(c) || plainBytes(c) != s {
		t.Fatalf("Decode(%x) = %v, whose bytes are %x, %d", s, c, again, e)
	}
	return true
}

// No beginning of a catalog's bytes is another one's, nor is what has something behind them.
func TestC5NeitherCutNorLonger(t *testing.T) {
	for _, w := range written() {
		s := bytesOf(t, w.digits)
		for n := range len(s) {
			if soundDecode(t, s[:n]) {
				t.Errorf("the first %d bytes of %x are taken", n, s)
			}
		}
		for b := range 256 {
			if soundDecode(t, s+string([]byte{byte(b)})) {
				t.Errorf("%x with a byte %x behind is taken", s, b)
			}
		}
	}
}

// Each byte is changed to each other one, is left out, and has another one laid ahead of it.
func TestC5OneByteOff(t *testing.T) {
	took := 0
	for _, w := range written() {
		s := bytesOf(t, w.digits)
		if len(s) > 200 {
			continue
		}
		for i := range len(s) {
			for b := range 256 {
				for _, off := range []string{s[:i] + string([]byte{byte(b)}) + s[i+1:], s[:i] + string([]byte{byte(b)}) + s[i:]} {
					if soundDecode(t, off) {
						took++
					}
				}
			}
			soundDecode(t, s[:i]+s[i+1:])
		}
	}
	if took == 0 {
		t.Error("no letter of a name may be another one")
	}
}

// Of all texts of one or two bytes, and of those with one of some bytes behind, just one is a catalog's: that of the empty one.
func TestC5AllShortTexts(t *testing.T) {
	var l []string
	for a := range 256 {
		for b := range 256 {
			for _, c := range []byte{0, 1, 2, 'a', 127, 128, 255} {
				if s := string([]byte{byte(a), byte(b), c}); soundDecode(t, s) {
					l = append(l, s)
				}
			}
			if s := string([]byte{byte(a), byte(b)}); soundDecode(t, s) {
				l = append(l, s)
			}
		}
		if s := string([]byte{byte(a)}); soundDecode(t, s) {
			l = append(l, s)
		}
	}
	if !slices.Equal(l, []string{"\x00\x00"}) {
		t.Errorf("%x are taken", l)
	}
}

func FuzzC5(f *testing.F) {
	for _, digits := range noCatalogs() {
		f.Add(bytesOf(f, digits))
	}
	for _, w := range written() {
		f.Add(bytesOf(f, w.digits))
	}
	f.Fuzz(func(t *testing.T, s string) { soundDecode(t, s) })
}

// texts are all texts of a catalog.
func texts(c api.Catalog) []string {
	var l []string
	for _, t := range c.Tables {
		l = append(l, t.Name)
		for _, x := range t.Columns {
			l = append(l, x.Name)
		}
		for _, x := range t.Indexes {
			l = append(l, x.Name)
		}
	}
	for _, p := range c.Procs {
		l = append(append(l, p.Name), p.Body...)
		for _, x := range p.Params {
			l = append(l, x.Name)
		}
	}
	return l
}

// within tells whether a text's bytes lie in another one's memory.
func within(s, long string) bool {
	at, from := uintptr(unsafe.Pointer(unsafe.StringData(s))), uintptr(unsafe.Pointer(unsafe.StringData(long)))
	return len(s) > 0 && from <= at && at < from+uintptr(len(long))
}

func mustBeNew(t *testing.T, what string, got, given []string) {
	t.Helper()
	for i, s := range got {
		for _, long := range given {
			if within(s, long) {
				t.Errorf("%s tells the text %d, %.20q, out of what was handed in", what, i, s)
			}
		}
	}
}

// wipe overwrites all of a catalog's lists, and their spare room.
func wipe(c api.Catalog) {
	for _, t := range c.Tables[:cap(c.Tables)] {
		clear(t.Columns[:cap(t.Columns)])
		clear(t.Key[:cap(t.Key)])
		for _, x := range t.Indexes[:cap(t.Indexes)] {
			clear(x.Columns[:cap(x.Columns)])
		}
		clear(t.Indexes[:cap(t.Indexes)])
	}
	for _, p := range c.Procs[:cap(c.Procs)] {
		clear(p.Params[:cap(p.Params)])
		clear(p.Body[:cap(p.Body)])
	}
	clear(c.Tables[:cap(c.Tables)])
	clear(c.Procs[:cap(c.Procs)])
}

func TestR5AnswersAreNew(t *testing.T) {
	given, x, p := api.Catalog{Tables: tables(2), Procs: []api.Proc{put()}}, wide(), put()
	p.Name = "other"
	old := texts(given)
	more, e := catalog.AddTable(given, x)
	if e != api.OK {
		t.Fatal(e)
	}
	mustBeNew(t, "AddTable", texts(more), append(texts(ofTable(x)), old...))
	wipe(given)
	wipe(ofTable(x))
	if want := (api.Catalog{Tables: append(tables(2), wide()), Procs: []api.Proc{put()}}); !same(more, want) {
		t.Errorf("AddTable told what is %v now", more)
	}
	last, e := catalog.AddProc(more, p)
	if e != api.OK {
		t.Fatal(e)
	}
	mustBeNew(t, "AddProc", texts(last), append(texts(ofProc(p)), texts(more)...))
	wipe(more)
	wipe(ofProc(p))
	other := put()
	other.Name = "other"
	if want := (api.Catalog{Tables: append(tables(2), wide()), Procs: []api.Proc{put(), other}}); !same(last, want) {
		t.Errorf("AddProc told what is %v now", last)
	}
	s, _ := catalog.Encode(last)
	mustBeNew(t, "Encode", []string{s}, texts(last))
	back, _ := catalog.Decode(s)
	mustBeNew(t, "Decode", texts(back), []string{s})
}

// Each list of an answer in turn is lengthened and overwritten: no other one changes.
func TestR5ListsOfAnAnswerAreApart(t *testing.T) {
	for turn := range 7 {
		s, _ := catalog.Encode(rich())
		read, _ := catalog.Decode(s)
		added, e := catalog.AddTable(api.Catalog{Tables: rich().Tables[1:], Procs: rich().Procs}, rich().Tables[0])
		if e != api.OK {
			t.Fatal(e)
		}
		for _, c := range []api.Catalog{read, added} {
			for i := range c.Tables {
				was := evened(c)
				x := &c.Tables[i]
				switch turn {
				case 0:
					clear(append(x.Columns, api.Column{}))
					x.Columns = was.Tables[i].Columns
				case 1:
					clear(append(x.Key, 9))
					x.Key = was.Tables[i].Key
				case 2:
					clear(append(x.Indexes, api.Index{}))
					x.Indexes = was.Tables[i].Indexes
				case 3:
					clear(append(x.Indexes[2].Columns, 9))
					x.Indexes[2].Columns = was.Tables[i].Indexes[2].Columns
				case 4:
					clear(append(c.Procs[i].Params, api.Param{}))
					c.Procs[i].Params = was.Procs[i].Params
				case 5:
					clear(append(c.Procs[i].Body, ""))
					c.Procs[i].Body = was.Procs[i].Body
				case 6:
					clear(append(c.Procs, api.Proc{})[i : i+1])
					c.Procs = was.Procs
				}
				if !same(c, was) {
					t.Fatalf("turn %d, table %d: another list has changed", turn, i)
				}
			}
		}
	}
}

// The spare room of what is handed in stays, as all else of it does.
func TestR5ArgumentsStay(t *testing.T) {
	room := rich()
	c := api.Catalog{Tables: room.Tables[:3], Procs: room.Procs[:3]}
	for i := range c.Tables {
		c.Tables[i].Columns = append(columns(16), columns(2)...)[:16]
		c.Tables[i].Indexes = c.Tables[i].Indexes[:2]
		c.Tables[i].Key = c.Tables[i].Key[:8:8]
	}
	was, whole := evened(c), evened(room)
	x, p := small(), put()
	catalog.Right(c)
	catalog.AddTable(c, x)
	catalog.AddProc(c, p)
	catalog.AddTable(c, c.Tables[1])
	catalog.AddProc(c, c.Procs[1])
	catalog.Encode(c)
	catalog.Table(c, "t")
	catalog.Proc(c, "p")
	catalog.Column(c.Tables[0], "cb")
	if !same(c, was) || !same(room, whole) || !same(ofTable(x), ofTable(small())) || !same(ofProc(p), ofProc(put())) {
		t.Errorf("what was handed in has changed: %v", c)
	}
}

// What was asked before, right or wrong, is not met again.
func TestR6TheSameAgain(t *testing.T) {
	c := api.Catalog{Tables: tables(3), Procs: procs(3)}
	wrong := api.Catalog{Tables: append(tables(3), tables(1)...)}
	first, _ := catalog.Encode(c)
	for range 50 {
		if s, e := catalog.Encode(c); s != first || e != api.OK || !catalog.Right(c) || catalog.Right(wrong) {
			t.Fatalf("Encode = %x, %d", s, e)
		}
		if more, e := catalog.AddTable(c, wide()); e != api.OK || len(more.Tables) != 4 {
			t.Fatalf("AddTable = %v, %d", more, e)
		}
		if more, e := catalog.AddProc(c, put()); e != api.OK || len(more.Procs) != 4 {
			t.Fatalf("AddProc = %v, %d", more, e)
		}
	}
}
