package snap_test

import (
	"fmt"
	"reflect"
	"slices"
	"strings"
	"testing"
	"unsafe"

	"unison/api"
	"unison/catalog"
	"unison/disk"
	"unison/frame"
	"unison/key"
	rowbytes "unison/row"
	"unison/snap"
	"unison/table"
)

// dice are numbers that look thrown, and are always the same.
type dice uint64

func (d *dice) below(n int) int {
	*d = *d*6364136223846793005 + 1442695040888963407
	return int(*d>>33) % n
}

// oneIn so many times it is true.
func (d *dice) oneIn(n int) bool { return d.below(n) == 0 }

func pick[T any](d *dice, l ...T) T { return l[d.below(len(l))] }

// value is a thrown one of a Kind; greater ones of texts have memory of their own.
func (d *dice) value(kind int) api.Value {
	switch kind {
	case api.Int:
		return num(pick(d, 0, 1, 2, 3, -1, -64, 64, 300, api.MaxInt, -api.MaxInt, d.below(1000)))
	case api.Bool:
		return api.Value{Kind: api.Bool, Int: d.below(2)}
	case api.Text:
		return text(strings.Clone(pick(d, "", "a", "two", "\x00\xff", strings.Repeat("long", 16))))
	}
	return api.Value{}
}

// table throws one that may be.
func (d *dice) table(name string) api.Table {
	t := api.Table{Name: name}
	for i := range 1 + d.below(4) {
		t.Columns = append(t.Columns, api.Column{Name: fmt.Sprint("c", i), Type: 1 + d.below(3), NotNull: i == 0 || d.oneIn(3)})
		if t.Columns[i].NotNull && (i == 0 || d.oneIn(2)) {
			t.Key = slices.Insert(t.Key, d.below(len(t.Key)+1), i)
		}
	}
	t.Part = t.Key[d.below(len(t.Key))]
	for i := range d.below(3) {
		t.Indexes = append(t.Indexes, api.Index{Name: fmt.Sprint("i", i), Columns: []int{d.below(len(t.Columns))}, Unique: d.oneIn(2)})
	}
	return t
}

// rows throws rows of which most may stand in a table, by rising keys.
func (d *dice) rows(t api.Table) [][]api.Value {
	var l [][]api.Value
	for range d.below(6) {
		var r []api.Value
		for _, c := range t.Columns {
			kind := c.Type
			if !c.NotNull && d.oneIn(3) {
				kind = api.Null
			}
			r = append(r, d.value(kind))
		}
		l = append(l, r)
	}
	slices.SortFunc(l, func(a, b []api.Value) int { return strings.Compare(sortKey(t, a), sortKey(t, b)) })
	return slices.CompactFunc(l, func(a, b []api.Value) bool { return sortKey(t, a) == sortKey(t, b) })
}

// sortKey is a row's by the index -1; of a short row nothing.
func sortKey(t api.Table, r []api.Value) string {
	var l []api.Value
	for _, c := range t.Key {
		if c < len(r) {
			l = append(l, r[c])
		}
	}
	s, _ := key.Encode(l...)
	return s
}

func (d *dice) reply() api.Reply {
	if d.oneIn(3) {
		return api.Reply{Code: api.Errno(1 + d.below(999)), At: d.below(8)}
	}
	var r api.Reply
	for range d.below(4) {
		x := api.Result{Count: pick(d, 0, 0, 1, 200, api.MaxInt)}
		for range d.below(4) {
			var l []api.Value
			for range d.below(6) {
				l = append(l, d.value(d.below(4)))
			}
			x.Rows = append(x.Rows, l)
		}
		r.Results = append(r.Results, x)
	}
	return r
}

// snap throws a snapshot; most may be.
func (d *dice) snap() *api.Snap {
	x := &api.Snap{Pos: pick(d, 0, 1, 7, 127, 128, 5000000, 99999999999)}
	for i := range d.below(4) {
		t := d.table(fmt.Sprint("t", i))
		x.Catalog.Tables = append(x.Catalog.Tables, t)
		x.State.Tables = append(x.State.Tables, d.rows(t))
	}
	for i := range d.below(3) {
		x.Catalog.Procs = append(x.Catalog.Procs, api.Proc{Name: fmt.Sprint("p", i), Body: []string{"x", strings.Repeat("y", 1+d.below(1000))}, Rows: i, Bytes: 500})
	}
	for c := 1; c <= api.MaxClients && x.Pos > 0; c += 1 + d.below(40) {
		x.Last = append(x.Last, api.Done{Client: c, Seq: pick(d, 1, 2, 500, api.MaxInt), Pos: min(x.Pos-1, d.below(1000)), Reply: d.reply()})
	}
	return x
}

// plainRow tells whether a row has bytes.
func plainRow(r []api.Value) bool {
	_, e := rowbytes.Encode(r...)
	return e == api.OK
}

// plainReply is whether a reply may be, as the chapter's words have it.
func plainReply(r api.Reply) bool {
	ok := 0 <= r.Code && r.Code <= 999 && 0 <= r.At && r.At < api.MaxBody && len(r.Results) <= 8
	ok = ok && (r.Code == 0 || len(r.Results) == 0) && (r.Code != 0 || r.At == 0)
	for _, x := range r.Results {
		ok = ok && 0 <= x.Count && x.Count <= 1<<62
		for _, l := range x.Rows {
			ok = ok && plainRow(l)
		}
	}
	return ok
}

// plainState is whether a state's rows may stand in a catalog's tables, by chapter 9: a store takes them, and tells them in the same order.
func plainState(c api.Catalog, x api.State) bool {
	s, e := table.New(c, 3)
	if e != api.OK || s.Load(x) != api.OK {
		return false
	}
	for i, t := range c.Tables {
		for j := 1; j < len(x.Tables[i]); j++ {
			if sortKey(t, x.Tables[i][j-1]) >= sortKey(t, x.Tables[i][j]) {
				return false
			}
		}
	}
	return true
}

func plainSnap(x api.Snap) bool {
	ok := catalog.Right(x.Catalog) && 0 <= x.Pos && x.Pos < 100000000000 && plainState(x.Catalog, x.State) && len(x.Last) <= 64
	for i, d := range x.Last {
		ok = ok && (i == 0 || x.Last[i-1].Client < d.Client)
		ok = ok && 1 <= d.Client && d.Client <= 64 && 1 <= d.Seq && d.Seq <= 1<<62 && 0 <= d.Pos && d.Pos < x.Pos && plainReply(d.Reply)
	}
	return ok
}

// digits are a number's.
func digits(n int) string {
	if n < 128 {
		return string([]byte{byte(n)})
	}
	return string([]byte{byte(n%128) + 128}) + digits(n/128)
}

func plainRows(l [][]api.Value) string {
	s := digits(len(l))
	for _, r := range l {
		b, _ := rowbytes.Encode(r...)
		s += digits(len(b)) + b
	}
	return s
}

// plainBytes are a snapshot's, as the chapter's words have them.
func plainBytes(x api.Snap) string {
	c, _ := catalog.Encode(x.Catalog)
	s := digits(len(c)) + c + digits(x.Pos)
	for _, l := range x.State.Tables {
		s += plainRows(l)
	}
	s += digits(len(x.Last))
	for _, d := range x.Last {
		s += digits(d.Client) + digits(d.Seq) + digits(d.Pos) + digits(int(d.Reply.Code)) + digits(d.Reply.At) + digits(len(d.Reply.Results))
		for _, r := range d.Reply.Results {
			s += digits(r.Count) + plainRows(r.Rows)
		}
	}
	return s
}

// mustBeAsTheWordsSay holds a snapshot against the words, and tells whether it may be.
func mustBeAsTheWordsSay(t testing.TB, x api.Snap) bool {
	t.Helper()
	s, e := snap.Encode(x)
	if !plainSnap(x) {
		if s != "" || e != api.ErrSnap {
			t.Fatalf("Encode(%s) = %x, %d; want %d", shown(x), s, e, api.ErrSnap)
		}
		return false
	}
	if s != plainBytes(x) || e != api.OK {
		t.Fatalf("Encode(%s) = %x, %d; want %x", shown(x), s, e, plainBytes(x))
	}
	if got, e := snap.Decode(s); shown(got) != shown(x) || e != api.OK {
		t.Fatalf("Decode(%x) = %s, %d; want %s", s, shown(got), e, shown(x))
	}
	return true
}

func TestX1X4Thrown(t *testing.T) {
	may := 0
	for i := range 3000 {
		d := dice(i)
		if mustBeAsTheWordsSay(t, *d.snap()) {
			may++
		}
	}
	if may < 1500 || may > 2990 {
		t.Error(may)
	}
}

// part is a field, or an element of a list, of something, with the name of the field that has it.
type part struct {
	reflect.Value
	name string
}

// partsOf are all parts of what a pointer points to.
func partsOf(x any) []part {
	var l []part
	var walk func(v reflect.Value, name string)
	walk = func(v reflect.Value, name string) {
		l = append(l, part{v, name})
		switch v.Kind() {
		case reflect.Struct:
			for i := range v.NumField() {
				walk(v.Field(i), v.Type().Field(i).Name)
			}
		case reflect.Slice:
			for i := range v.Len() {
				walk(v.Index(i), name)
			}
		}
	}
	walk(reflect.ValueOf(x).Elem(), "")
	return l
}

// instead are values that a part might have instead.
func instead(p part) []reflect.Value {
	var l []reflect.Value
	switch p.Kind() {
	case reflect.Int:
		for _, n := range []int{0, 1, 2, 3, 4, 8, 64, 65, 999, 1000, -1, 1 << 62, 1<<62 + 1} {
			l = append(l, reflect.ValueOf(n).Convert(p.Type()))
		}
	case reflect.String:
		for _, s := range []string{"", "a", "t1", "A", strings.Repeat("x", 64), strings.Repeat("x", 65)} {
			l = append(l, reflect.ValueOf(s))
		}
	case reflect.Bool:
		l = append(l, reflect.ValueOf(!p.Bool()))
	case reflect.Slice:
		l = append(l, reflect.Zero(p.Type()), reflect.MakeSlice(p.Type(), 1, 1))
		if p.Len() > 0 {
			l = append(l, reflect.AppendSlice(p.Slice3(0, p.Len(), p.Len()), p.Value), p.Slice(1, p.Len()), p.Slice(0, p.Len()-1))
		}
		if p.Len() > 1 {
			turned := reflect.AppendSlice(reflect.MakeSlice(p.Type(), 0, 0), p.Slice(1, p.Len()))
			l = append(l, reflect.Append(turned, p.Index(0)))
		}
	}
	return l
}

// Each part of a snapshot is changed, one at a time.
func TestX1EachPart(t *testing.T) {
	met := map[bool]int{}
	for i := range 40 {
		d := dice(i)
		x := d.snap()
		for _, p := range partsOf(x) {
			was := reflect.New(p.Type()).Elem()
			was.Set(p.Value)
			for _, o := range instead(p) {
				p.Set(o)
				met[mustBeAsTheWordsSay(t, *x)]++
				p.Set(was)
			}
		}
	}
	if met[true] < 3000 || met[false] < 10000 {
		t.Error(met)
	}
}

// mustReadAsTheWordsSay holds what Decode tells of a text against the words: it is a snapshot whose bytes are the text, or there is none.
func mustReadAsTheWordsSay(t testing.TB, s string) bool {
	t.Helper()
	x, e := snap.Decode(s)
	switch {
	case e == api.OK && plainSnap(x) && plainBytes(x) == s:
		return true
	case e != api.ErrSnap || !none(x):
		t.Fatalf("Decode(%x) = %s, %d", s, shown(x), e)
	}
	return false
}

// Bytes of snapshots in which something was changed, left out or put in.
func TestX1ThrownBytes(t *testing.T) {
	met := map[bool]int{}
	for i := range 20000 {
		d := dice(i)
		x := d.snap()
		if !plainSnap(*x) {
			continue
		}
		s := plainBytes(*x)
		at := d.below(len(s))
		end := min(len(s), at+d.below(3))
		s = s[:at] + pick(&d, "", "\x00", "\x01", "\x80", "\xff\xff\xff\xff\xff\xff\x7f", string([]byte{byte(d.below(256))})) + s[end:]
		met[mustReadAsTheWordsSay(t, s)]++
	}
	if met[true] < 1000 || met[false] < 5000 {
		t.Error(met)
	}
}

func FuzzX1(f *testing.F) {
	f.Add("\x02\x00\x00\x00\x00")
	for i := range 20 {
		d := dice(i)
		if x := d.snap(); plainSnap(*x) {
			f.Add(plainBytes(*x))
		}
	}
	f.Fuzz(func(t *testing.T, s string) { mustReadAsTheWordsSay(t, s) })
}

// plainDo does steps up to the first that is refused.
func plainDo(steps ...func() api.Errno) api.Errno {
	for _, step := range steps {
		if e := step(); e != api.OK {
			return e
		}
	}
	return api.OK
}

// plainNames are those of snapshots' files, rising.
func plainNames(d *disk.Disk) []string {
	var l []string
	for _, f := range d.Files() {
		if len(f.Name) == 16 && f.Name[:5] == "snap." && !slices.ContainsFunc([]byte(f.Name[5:]), func(c byte) bool { return c < '0' || c > '9' }) {
			l = append(l, f.Name)
		}
	}
	return l
}

// plainWrite is Write, as the chapter's words have it.
func plainWrite(d *disk.Disk, x api.Snap) api.Errno {
	if !plainSnap(x) {
		return api.ErrSnap
	}
	name := fmt.Sprintf("snap.%011d", x.Pos)
	var steps []func() api.Errno
	if slices.ContainsFunc(d.Files(), func(f api.File) bool { return f.Name == "snap.new" }) {
		steps = append(steps, func() api.Errno { return d.Remove("snap.new") })
	}
	steps = append(steps,
		func() api.Errno { return d.Append("snap.new", framed(plainBytes(x))) },
		func() api.Errno { return d.Sync("snap.new") },
		func() api.Errno { return d.Rename("snap.new", name) })
	for _, other := range plainNames(d) {
		if other != name {
			steps = append(steps, func() api.Errno { return d.Remove(other) })
		}
	}
	return plainDo(steps...)
}

// plainRead is Read, as the chapter's words have it.
func plainRead(d *disk.Disk) (string, api.Errno) {
	names := plainNames(d)
	if d.Down() {
		return "", api.ErrDown
	}
	if len(names) == 0 {
		return "", api.ErrNone
	}
	s, _ := d.Read(names[len(names)-1])
	all := ""
	for at := 0; at < len(s); {
		piece, next, e := frame.Read(s, at)
		if e != api.OK {
			return "", api.ErrSnap
		}
		all, at = all+piece, next
	}
	x, e := snap.Decode(all)
	if e != api.OK || names[len(names)-1] != fmt.Sprintf("snap.%011d", x.Pos) {
		return "", api.ErrSnap
	}
	return all, api.OK
}

// two are disks, on one of which the program writes, on the other one the words.
type two struct{ got, want *disk.Disk }

func (w two) alike(t testing.TB, what string, got, want api.Errno) {
	t.Helper()
	if got != want || !slices.Equal(w.got.Files(), w.want.Files()) || w.got.Steps() != w.want.Steps() || w.got.Down() != w.want.Down() {
		t.Fatalf("%s: %d, %s, %d steps; want %d, %s, %d", what, got, listed(w.got.Files()), w.got.Steps(), want, listed(w.want.Files()), w.want.Steps())
	}
	s, e := plainRead(w.want)
	x, f := snap.Read(w.got)
	if e != f || e == api.OK && plainBytes(x) != s || e != api.OK && !none(x) {
		t.Fatalf("%s: Read = %s, %d; want %x, %d", what, shown(x), f, s, e)
	}
}

// does both.
func (w two) does(t testing.TB, what string, act func(d *disk.Disk) api.Errno) {
	t.Helper()
	w.alike(t, what, act(w.got), act(w.want))
}

func (w two) turn(t testing.TB, d *dice) {
	t.Helper()
	name := pick(d, "snap.new", "snap.00000000000", "snap.00000000001", "snap.00000000007", "snap.00000000127", "snap.99999999999", "log.0", "snap.x")
	other := pick(d, name, "snap.00000000001", "snap.10000000000", "snap.new", "old")
	n, keep := d.below(6), d.below(300)
	switch d.below(10) {
	case 0:
		w.does(t, "Append", func(d *disk.Disk) api.Errno { return d.Append(name, framed("\x02\x00\x00\x01\x00")) })
	case 1:
		w.does(t, "Append", func(d *disk.Disk) api.Errno { return d.Append(name, "x") })
	case 2:
		w.does(t, "Remove", func(d *disk.Disk) api.Errno { return d.Remove(name) })
	case 3:
		w.does(t, "Rename", func(d *disk.Disk) api.Errno { return d.Rename(name, other) })
	case 4:
		w.does(t, "Arm", func(d *disk.Disk) api.Errno { return d.Arm(n) })
	case 5, 6:
		w.does(t, "Crash", func(d *disk.Disk) api.Errno {
			d.Crash(keep, keep/2)
			return api.OK
		})
	default:
		x := *d.snap()
		w.alike(t, "Write", snap.Write(w.got, x), plainWrite(w.want, x))
	}
}

func TestX2X3Thrown(t *testing.T) {
	for i := range 150 {
		d := dice(i)
		size := pick(&d, 400, 3000, 99999)
		w := two{newDisk(t, size), newDisk(t, size)}
		for range 40 {
			w.turn(t, &d)
		}
	}
}

func TestR1OddArguments(t *testing.T) {
	d := newDisk(t, 1000)
	for _, x := range []api.Snap{
		{Pos: -1 << 63}, {Pos: 1<<63 - 1}, {State: api.State{Tables: make([][][]api.Value, 100)}}, {Last: make([]api.Done, 1000)}, {Pos: 1, Last: make([]api.Done, 1)},
		{Catalog: api.Catalog{Tables: make([]api.Table, 1)}, State: api.State{Tables: make([][][]api.Value, 1)}},
		{Catalog: api.Catalog{Tables: []api.Table{{Name: "t", Key: []int{5}, Part: -9}}}, State: api.State{Tables: [][][]api.Value{rows(nil, nil)}}},
		{Catalog: api.Catalog{Tables: []api.Table{small()}}, State: api.State{Tables: [][][]api.Value{rows(nil, nil)}}},
		{Pos: 5, Last: []api.Done{{Client: -1 << 63, Seq: -1 << 63, Pos: -1 << 63, Reply: api.Reply{Code: -1 << 63, At: -1 << 63, Results: make([]api.Result, 1000)}}}},
		{Pos: 5, Last: []api.Done{{Client: 1, Seq: 1, Reply: api.Reply{Results: []api.Result{{Count: -1 << 63, Rows: rows(make([]api.Value, 1000))}}}}}},
	} {
		if s, e := snap.Encode(x); s != "" || e != api.ErrSnap {
			t.Errorf("Encode(%s) = %x, %d", shown(x), s, e)
		}
		if e := snap.Write(d, x); e != api.ErrSnap || d.Steps() != 0 {
			t.Errorf("Write(%s): %d", shown(x), e)
		}
	}
	for _, s := range []string{"", "\x00", strings.Repeat("\x00", 5000), strings.Repeat("\x01", 5000), strings.Repeat("\x80", 1<<20), strings.Repeat("\xff", 1<<20), strings.Repeat("\x7f", 1<<20), "\x02\x00\x00" + strings.Repeat("\x01", 1<<20), "\x02\x00\x00\x01\xff\xff\x3f" + strings.Repeat("\x00", 1<<20), "\x02\x00\x00\x01\xff\xff\x3f" + strings.Repeat("\x80", 1<<20)} {
		mustNotDecode(t, "odd", s)
	}
}

// A snapshot that may not be goes ahead of all that the disk says; what is down ahead of what is not there.
func TestR2TheFirstError(t *testing.T) {
	d := newDisk(t, 1)
	d.Arm(0)
	mustWrite(t, d, empty(-1), api.ErrSnap)
	mustWrite(t, d, empty(0), api.ErrFull)
	if d.Down() {
		t.Error("what had no room made the disk fall")
	}
	d.Append("a", "")
	mustWrite(t, d, empty(-1), api.ErrSnap)
	mustWrite(t, d, empty(0), api.ErrDown)
	mustNotRead(t, "down", d, api.ErrDown)
	d.Crash()
	mustWrite(t, d, empty(0), api.ErrFull)
	mustNotRead(t, "up again", d, api.ErrNone)
}

func TestR3RefusedChangesNothing(t *testing.T) {
	l := with(others(), file(t, some()), loose("snap.new", "a draft"))
	d := newDisk(t, 99999, l...)
	for i := range 2000 {
		thrown := dice(i)
		x := thrown.snap()
		parts := partsOf(x)
		p := parts[thrown.below(len(parts))]
		if l := instead(p); len(l) > 0 {
			p.Set(l[thrown.below(len(l))])
		}
		if plainSnap(*x) {
			continue
		}
		mustWrite(t, d, *x, api.ErrSnap)
	}
	if mustLie(t, "refused", d, l...); d.Steps() != 0 {
		t.Error(d.Steps())
	}
	mustRead(t, "refused", d, some())
}

func TestR4EmptyLists(t *testing.T) {
	for i := range 500 {
		d := dice(i)
		x := d.snap()
		want, code := snap.Encode(*x)
		for _, p := range partsOf(x) {
			if p.Kind() == reflect.Slice && p.Len() == 0 {
				p.Set(reflect.MakeSlice(p.Type(), 0, 3))
			}
		}
		if s, e := snap.Encode(*x); s != want || e != code {
			t.Fatalf("%s: %x, %d; want %x, %d", shown(*x), s, e, want, code)
		}
	}
}

// room is the memory of a list, its spare one too, or of a text.
type room struct {
	from, to uintptr
	name     string
}

func roomsOf(x any) []room {
	var l []room
	for _, p := range partsOf(x) {
		switch p.Kind() {
		case reflect.Slice:
			from := p.Pointer()
			l = append(l, room{from, from + uintptr(p.Cap())*p.Type().Elem().Size(), p.name})
		case reflect.String:
			s := p.String()
			from := uintptr(unsafe.Pointer(unsafe.StringData(s)))
			l = append(l, room{from, from + uintptr(len(s)), p.name})
		}
	}
	// Texts of one byte are the language's own, and never change.
	return slices.DeleteFunc(l, func(r room) bool { return r.to-r.from < 2 })
}

func apart(t *testing.T, a, b []room) {
	t.Helper()
	for i, x := range a {
		for j, y := range b {
			if x.from < y.to && y.from < x.to && !(len(a) == len(b) && &a[0] == &b[0] && i == j) {
				t.Fatalf("%s and %s share memory", x.name, y.name)
			}
		}
	}
}

func TestR5AnswersAreNew(t *testing.T) {
	texts := 0
	for i := range 500 {
		thrown := dice(i)
		x := thrown.snap()
		s, e := snap.Encode(*x)
		if e != api.OK {
			continue
		}
		again, _ := snap.Encode(*x)
		apart(t, roomsOf(&s), roomsOf(x))
		apart(t, roomsOf(&s), roomsOf(&again))
		d := newDisk(t, api.MaxDisk)
		mustWrite(t, d, *x, api.OK)
		one, _ := snap.Decode(s)
		other, _ := snap.Decode(s)
		read, _ := snap.Read(d)
		reread, _ := snap.Read(d)
		told := slices.Concat(roomsOf(&one), roomsOf(&other), roomsOf(&read), roomsOf(&reread))
		apart(t, told, told)
		apart(t, told, slices.Concat(roomsOf(x), roomsOf(&s)))
		texts += len(told)
	}
	if texts < 10000 {
		t.Error(texts)
	}
}

// roomy gives all lists spare room.
func roomy(x any) {
	for _, p := range partsOf(x) {
		if p.Kind() == reflect.Slice {
			wide := reflect.MakeSlice(p.Type(), p.Len(), p.Len()+3)
			reflect.Copy(wide, p.Value)
			p.Set(wide)
		}
	}
}

// whole is all of something, with the spare room of its lists.
func whole(x any) string {
	out := fmt.Sprintf("%+v", reflect.ValueOf(x).Elem().Interface())
	for _, p := range partsOf(x) {
		if p.Kind() == reflect.Slice {
			out += fmt.Sprintf("|%+v", p.Slice3(p.Len(), p.Cap(), p.Cap()).Slice(0, p.Cap()-p.Len()).Interface())
		}
	}
	return out
}

func TestR5ArgumentsStay(t *testing.T) {
	for i := range 500 {
		thrown := dice(i)
		x := thrown.snap()
		roomy(x)
		before := whole(x)
		snap.Encode(*x)
		snap.Write(newDisk(t, api.MaxDisk), *x)
		if after := whole(x); after != before {
			t.Fatalf("%s; then %s", before, after)
		}
	}
}

// What was written is not changed by what is done to the snapshot behind that.
func TestR5NothingIsKept(t *testing.T) {
	x := some()
	d := newDisk(t, 99999)
	mustWrite(t, d, x, api.OK)
	x.State.Tables[0][0][0], x.Last[0].Client, x.Catalog.Tables[0].Name = num(-9), 1, "other"
	mustRead(t, "changed behind Write", d, some())
	y, _ := snap.Read(d)
	y.State.Tables[0][0][0], y.Last[0].Client, y.Catalog.Tables[0].Name = num(-9), 1, "other"
	mustRead(t, "changed behind Read", d, some())
}

func TestR6TheSameAgain(t *testing.T) {
	for i := range 300 {
		thrown, next := dice(i), dice(i+1)
		x, y := *thrown.snap(), *next.snap()
		want, code := snap.Encode(x)
		one := newDisk(t, api.MaxDisk)
		wrote := snap.Write(one, x)
		other, _ := snap.Encode(y)
		snap.Decode(other)
		two := newDisk(t, api.MaxDisk)
		snap.Write(newDisk(t, api.MaxDisk), y)
		if s, e := snap.Encode(x); s != want || e != code {
			t.Fatalf("%x, %d; then %x, %d", want, code, s, e)
		}
		if e := snap.Write(two, x); e != wrote || !slices.Equal(one.Files(), two.Files()) {
			t.Fatalf("%d, %s; then %d, %s", wrote, listed(one.Files()), e, listed(two.Files()))
		}
	}
}

// What an error's reply does not name is nothing.
func TestR8Decoded(t *testing.T) {
	x, _ := snap.Decode(mustEncode(t, some()))
	if r := x.Last[0].Reply; len(r.Results) != 0 || r.Code != api.ErrUnique || r.At != 1 {
		t.Error(shown(r))
	}
	if r := x.Last[2].Reply; r.Code != api.OK || r.At != 0 || len(r.Results) != 0 {
		t.Error(shown(r))
	}
}
