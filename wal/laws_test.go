package wal_test

import (
	"slices"
	"strconv"
	"strings"
	"testing"
	"unsafe"

	"unison/api"
	"unison/disk"
	"unison/frame"
	"unison/wal"
)

// plain is a log as the chapter's words tell it: it keeps its numbers alone, and looks at its disk's files whenever it is asked.
type plain struct {
	d                *disk.Disk
	from, size, safe int
}

// piece is a segment as it lies on a disk.
type piece struct {
	name    string
	first   int
	records []string
	whole   string
	torn    bool
}

// pieces are the segments, by rising places; false: there is a file that is none, or two that do not meet.
func (p *plain) pieces() ([]piece, bool) {
	var l []piece
	for _, f := range p.d.Files() {
		digits, ok := strings.CutPrefix(f.Name, "log.")
		if !ok {
			continue
		}
		if len(digits) != 12 || strings.Trim(digits, "0123456789") != "" {
			return nil, false
		}
		first, _ := strconv.Atoi(digits)
		records, end := frame.All(f.Data)
		l = append(l, piece{f.Name, first, records, f.Data[:end], end != len(f.Data)})
	}
	for i := range len(l) - 1 {
		if l[i+1].first-l[i].first != len(l[i].records) {
			return nil, false
		}
	}
	return l, true
}

// stretch is Base, Next, and the records between them.
func (p *plain) stretch() (base, next int, records []string) {
	base, next = p.from, p.from
	l, _ := p.pieces()
	for i, s := range l {
		if i == 0 {
			base = s.first
		}
		next = s.first + len(s.records)
		records = append(records, s.records...)
	}
	return base, next, records
}

// inTurn does steps up to the first that is refused.
func inTurn(steps ...func() api.Errno) api.Errno {
	for _, step := range steps {
		if e := step(); e != api.OK {
			return e
		}
	}
	return api.OK
}

func (p *plain) open() api.Errno {
	if p.from < 0 || p.from > 999999999999 || p.size < 1 || p.size > 1024 {
		return api.ErrArg
	}
	if p.d.Down() {
		return api.ErrDown
	}
	l, ok := p.pieces()
	if !ok {
		return api.ErrLog
	}
	if len(l) > 0 {
		last := l[len(l)-1]
		steps := []func() api.Errno{func() api.Errno { return p.d.Sync(last.name) }}
		if last.torn {
			steps = []func() api.Errno{
				func() api.Errno { return p.d.Append("mend", last.whole) },
				func() api.Errno { return p.d.Sync("mend") },
				func() api.Errno { return p.d.Rename("mend", last.name) },
			}
			if slices.ContainsFunc(p.d.Files(), func(f api.File) bool { return f.Name == "mend" }) {
				steps = slices.Insert(steps, 0, func() api.Errno { return p.d.Remove("mend") })
			}
		}
		if e := inTurn(steps...); e != api.OK {
			return e
		}
	}
	_, p.safe, _ = p.stretch()
	return api.OK
}

func (p *plain) append(data string) (int, api.Errno) {
	l, _ := p.pieces()
	_, next, _ := p.stretch()
	if len(data) > 4096 || next > 999999999999 {
		return 0, api.ErrLong
	}
	name := seg(next).Name
	if len(l) == 0 || len(l[len(l)-1].records) >= p.size {
		if e := p.sync(); e != api.OK {
			return 0, e
		}
	} else {
		name = l[len(l)-1].name
	}
	if e := p.d.Append(name, wrapped(data)); e != api.OK {
		return 0, e
	}
	return next, api.OK
}

func (p *plain) sync() api.Errno {
	l, _ := p.pieces()
	_, next, _ := p.stretch()
	if p.safe < next {
		if e := p.d.Sync(l[len(l)-1].name); e != api.OK {
			return e
		}
		p.safe = next
	}
	return api.OK
}

func (p *plain) truncate(place int) api.Errno {
	if place < 0 || place > p.safe {
		return api.ErrArg
	}
	l, _ := p.pieces()
	var steps []func() api.Errno
	for i := range len(l) - 1 {
		if l[i+1].first <= place {
			steps = append(steps, func() api.Errno { return p.d.Remove(l[i].name) })
		}
	}
	return inTurn(steps...)
}

// act is one call of a log, or of the disk on which it lies.
type act struct {
	kind       string
	data       string
	n          int
	from, size int
}

// two are a log and a plain one, each on a disk of its own, both with the same files. Where a disk was refused there is none.
type two struct {
	d    *disk.Disk
	l    *wal.Log
	p    *plain
	open bool
}

func newTwo(t testing.TB, size int, l ...api.File) *two {
	t.Helper()
	return &two{d: newDisk(t, size, l...), p: &plain{d: newDisk(t, size, l...)}}
}

// reopen opens both anew.
func (w *two) reopen(from, size int) (got, want api.Errno) {
	w.p.from, w.p.size = from, size
	want = w.p.open()
	w.l, got = wal.Open(w.d, from, size)
	w.open = want == api.OK
	return got, want
}

// does does an act on both, and holds the answers, and all that can be told, against each other.
func (w *two) does(t *testing.T, a act) {
	t.Helper()
	got, want := api.OK, api.OK
	place, asked := 0, 0
	switch {
	case a.kind == "arm":
		got, want = w.d.Arm(a.n), w.p.d.Arm(a.n)
	case a.kind == "crash":
		w.d.Crash(a.n, a.n)
		w.p.d.Crash(a.n, a.n)
		got, want = w.reopen(a.from, a.size)
	case a.kind == "open":
		got, want = w.reopen(a.from, a.size)
	case !w.open:
	case a.kind == "append":
		place, got = w.l.Append(a.data)
		asked, want = w.p.append(a.data)
	case a.kind == "sync":
		got, want = w.l.Sync(), w.p.sync()
	case a.kind == "truncate":
		at := w.p.safe + a.n
		got, want = w.l.Truncate(at), w.p.truncate(at)
	}
	if got != want || place != asked {
		t.Fatalf("%.60v: %d, %d; want %d, %d", a, place, got, asked, want)
	}
	w.same(t, a)
}

func (w *two) same(t *testing.T, a act) {
	t.Helper()
	if !slices.Equal(w.d.Files(), w.p.d.Files()) || w.d.Steps() != w.p.d.Steps() || w.d.Down() != w.p.d.Down() {
		t.Fatalf("%.60v: %s, Steps %d, Down %t; want %s, %d, %t", a, shown(w.d.Files()), w.d.Steps(), w.d.Down(), shown(w.p.d.Files()), w.p.d.Steps(), w.p.d.Down())
	}
	if (w.l != nil) != w.open {
		t.Fatalf("%.60v: a log %t; want %t", a, w.l != nil, w.open)
	}
	if w.open {
		base, next, records := w.p.stretch()
		mustStand(t, w.l, base, next, w.p.safe)
		mustRead(t, w.l, base, records...)
	}
	if t.Failed() {
		t.Fatalf("%.60v: on %s", a, shown(w.d.Files()))
	}
}

// someActs has each kind of call, right and wrong.
func someActs() []act {
	return []act{
		{kind: "append", data: "a"}, {kind: "append"}, {kind: "append", data: "a longer one"}, {kind: "append", data: strings.Repeat("x", 4097)},
		{kind: "sync"}, {kind: "truncate"}, {kind: "truncate", n: -1}, {kind: "truncate", n: 1}, {kind: "truncate", n: -99},
		{kind: "arm"}, {kind: "arm", n: 1}, {kind: "arm", n: 2},
		{kind: "crash", from: 3, size: 2}, {kind: "crash", n: 9, from: 3, size: 2}, {kind: "crash", n: 99, from: 0, size: 1},
		{kind: "open", from: 999999999998, size: 1}, {kind: "open", from: 0, size: 3}, {kind: "open", from: -1, size: 1},
	}
}

// someDisks are files that a run begins with.
func someDisks() [][]api.File {
	return [][]api.File{
		nil,
		{seg(3, "a", "b"), seg(5, "c"), unsafely(torn(6, wrapped("d")[:6]), 2), {Name: "mend", Data: "old"}, {Name: "other", Data: "xy", Safe: 1}},
		{seg(999999999997, "a"), seg(999999999998, "b")},
	}
}

// allRuns goes through all runs of so many acts on a disk.
func allRuns(t *testing.T, count, room, size int, all []act, l ...api.File) {
	t.Helper()
	runs := 1
	for range count {
		runs *= len(all)
	}
	for i := range runs {
		w := newTwo(t, room, l...)
		w.does(t, act{kind: "open", from: 3, size: size})
		for range count {
			w.does(t, all[i%len(all)])
			i /= len(all)
		}
	}
}

func TestL1ToL6AllShortRuns(t *testing.T) {
	for _, l := range someDisks() {
		allRuns(t, 3, 70, 2, someActs(), l...)
	}
}

// Longer runs, of fewer acts, on a disk that is full behind three records.
func TestL1ToL6AllLongerRuns(t *testing.T) {
	few := []act{{kind: "append", data: "a"}, {kind: "sync"}, {kind: "truncate"}, {kind: "arm", n: 1}, {kind: "crash", n: 9, from: 3, size: 1}}
	allRuns(t, 6, 24, 1, few)
	allRuns(t, 5, 24, 2, few, seg(3, "a"))
}

// A run as long as the fuzzer likes: each byte is an act.
func FuzzL1ToL6(f *testing.F) {
	f.Add(0, []byte{0, 0, 0, 4, 5, 0, 13})
	f.Add(1, []byte{2, 2, 6, 11, 0, 1, 14, 8, 12})
	f.Add(2, []byte{0, 0, 15, 0, 10, 9, 13, 16, 17})
	f.Fuzz(func(t *testing.T, start int, run []byte) {
		all, disks := someActs(), someDisks()
		w := newTwo(t, 120, disks[uint(start)%uint(len(disks))]...)
		w.does(t, act{kind: "open", from: 3, size: 2})
		for _, b := range run[:min(len(run), 200)] {
			w.does(t, all[int(b)%len(all)])
		}
	})
}

// told is what is known of a log from outside: what was appended from where on, and what was safe when the disk fell.
type told struct {
	records          []string
	from, base, safe int
}

// write appends, syncs and cuts, till the disk falls or all is done.
func (k *told) write(t *testing.T, l *wal.Log) {
	t.Helper()
	for i := range 12 {
		// A word for each place and turn, so that no record passes for another one.
		data := strings.Repeat("r", i%4) + strconv.Itoa(len(k.records)*100+i)
		if place, e := l.Append(data); e == api.OK {
			if place != k.from+len(k.records) {
				t.Fatalf("the place of the record behind %d is %d", k.from+len(k.records), place)
			}
			k.records = append(k.records, data)
		}
		if i%5 == 2 {
			l.Sync()
		}
		if i%5 == 4 {
			l.Truncate(l.Safe() - 1)
		}
	}
	k.base, k.safe = l.Base(), l.Safe()
}

// check holds a log that was opened behind a fall against what is known.
func (k *told) check(t *testing.T, l *wal.Log) {
	t.Helper()
	if l.Base() != k.base || l.Next() < k.safe || l.Next() > k.from+len(k.records) || l.Safe() != l.Next() {
		t.Fatalf("Base %d, Next %d, Safe %d; it was Base %d, Safe %d, and %d were appended", l.Base(), l.Next(), l.Safe(), k.base, k.safe, len(k.records))
	}
	k.records = k.records[:l.Next()-k.from]
	mustRead(t, l, l.Base(), k.records[l.Base()-k.from:]...)
	k.safe = l.Safe()
}

// The disk falls at each step of a run, and again at each step of the opening, and at each of what is written then; of the tails each number of bytes is left.
func TestL7EachFall(t *testing.T) {
	for _, size := range []int{1, 3, 1024} {
		for fall := range 26 {
			for kept := range 18 {
				d := newDisk(t, 2000)
				k := &told{from: 40}
				l := mustOpen(t, d, k.from, size)
				mustBe(t, "Arm", d.Arm(fall), api.OK)
				k.write(t, l)
				d.Crash(kept)
				for again := range 6 {
					mustBe(t, "Arm", d.Arm(again), api.OK)
					if l, e := wal.Open(d, k.from, size); e == api.OK {
						k.check(t, l)
						k.write(t, l)
					}
					d.Crash(kept, again, 3)
				}
				k.check(t, mustOpen(t, d, k.from, size))
			}
		}
	}
}

// What was never synced may be gone, or be there, up to any record; what is cut within a record does not pass for one.
func TestL7EachTail(t *testing.T) {
	records := []string{"a", "", "bcd", "\x00", wrapped("x")}
	whole := wrapped(records...)
	for kept := range len(whole) + 2 {
		d := newDisk(t, 1000)
		l := mustOpen(t, d, 8, 9)
		mustAppend(t, l, 8, records...)
		d.Crash(kept)
		left, end := frame.All(whole[:min(kept, len(whole))])
		l = mustOpen(t, d, 8, 9)
		mustStand(t, l, 8, 8+len(left), 8+len(left))
		mustRead(t, l, 8, records[:len(left)]...)
		if f := d.Files(); len(f) != 1 || f[0].Data != whole[:end] || f[0].Safe != end {
			t.Errorf("kept %d: %s", kept, shown(f))
		}
		mustAppend(t, l, 8+len(left), "next")
	}
}

// within tells whether a text's bytes lie in another one's memory.
func within(s, long string) bool {
	at, from := uintptr(unsafe.Pointer(unsafe.StringData(s))), uintptr(unsafe.Pointer(unsafe.StringData(long)))
	return from <= at && at < from+uintptr(len(long))
}

// A record that is a piece of a longer text must not keep all of it; what is read is new each time.
func TestR5RecordsAreCopied(t *testing.T) {
	long := strings.Repeat("abc-", 100)
	d := newDisk(t, 2000)
	l := mustOpen(t, d, 0, 2)
	mustAppend(t, l, 0, long[:40], long[40:44], long)
	for range 2 {
		for place := range 3 {
			one, _ := l.Read(place)
			other, _ := l.Read(place)
			if within(one, long) || within(one, other) || one != other {
				t.Errorf("record %d is not new memory", place)
			}
		}
		l = mustOpen(t, d, 0, 2)
	}
}

// Logs on two disks have nothing in common.
func TestR5LogsAreApart(t *testing.T) {
	given := []api.File{seg(0, "a"), seg(1, "b")}
	d, e := newDisk(t, 1000, given...), newDisk(t, 1000, given...)
	l, other := mustOpen(t, d, 0, 2), mustOpen(t, e, 0, 2)
	mustAppend(t, l, 2, "c", "d")
	mustBe(t, "Truncate", l.Truncate(2), api.OK)
	mustStand(t, l, 1, 4, 3)
	mustStand(t, other, 0, 2, 2)
	mustRead(t, other, 0, "a", "b")
	mustLie(t, e, 1, given...)
}

// A log opens with the disk itself: what is done on either is seen on both.
func TestL1TheDiskItself(t *testing.T) {
	d := newDisk(t, 1000)
	l := mustOpen(t, d, 0, 2)
	mustAppend(t, l, 0, "a")
	mustBe(t, "Append of another file", d.Append("other", "x"), api.OK)
	if l.Steps() != 2 || l.Free() != 1000-8 || !slices.Equal(l.Files(), d.Files()) || l.Down() {
		t.Errorf("Steps %d, Free %d, files %s", l.Steps(), l.Free(), shown(l.Files()))
	}
}
