package wal_test

import (
	"fmt"
	"math"
	"slices"
	"strings"
	"testing"

	"unison/api"
	"unison/disk"
	"unison/frame"
	"unison/wal"
)

// places are how many there are that a segment can be called by.
const places = 1000000000000

// wrapped are the frames of records, one behind the other.
func wrapped(records ...string) string {
	s := ""
	for _, r := range records {
		f, e := frame.Wrap(r)
		if e != api.OK {
			panic("a test's record is too long")
		}
		s += f
	}
	return s
}

// seg is the segment of some records that begins at a place, all of it safe.
func seg(place int, records ...string) api.File { return torn(place, "", records...) }

// torn is one with bytes behind its last whole frame.
func torn(place int, rest string, records ...string) api.File {
	s := wrapped(records...) + rest
	return api.File{Name: fmt.Sprintf("log.%012d", place), Data: s, Safe: len(s)}
}

// unsafely is a file of which just so many bytes are safe.
func unsafely(f api.File, safe int) api.File {
	f.Safe = safe
	return f
}

// shown are files in a form that can be read.
func shown(l []api.File) string {
	s := ""
	for _, f := range l {
		s += fmt.Sprintf("[%s %.80q %d]", f.Name, f.Data, f.Safe)
	}
	return s
}

func newDisk(t testing.TB, size int, l ...api.File) *disk.Disk {
	t.Helper()
	d, e := disk.New(size, l...)
	if e != api.OK {
		t.Fatalf("a test's disk of %d bytes: %d", size, e)
	}
	return d
}

func mustOpen(t testing.TB, d *disk.Disk, from, size int) *wal.Log {
	t.Helper()
	l, e := wal.Open(d, from, size)
	if l == nil || e != api.OK {
		t.Fatalf("Open(%s, %d, %d): a log %t, %d", shown(d.Files()), from, size, l != nil, e)
	}
	return l
}

// mustFail holds it that a disk is opened with an error, which changes nothing on it.
func mustFail(t testing.TB, d *disk.Disk, from, size int, want api.Errno) {
	t.Helper()
	was, steps := d.Files(), d.Steps()
	if l, e := wal.Open(d, from, size); l != nil || e != want {
		t.Errorf("Open(%s, %d, %d): a log %t, %d; want %d", shown(was), from, size, l != nil, e, want)
	}
	if !slices.Equal(d.Files(), was) || d.Steps() != steps {
		t.Errorf("Open(%s, %d, %d) leaves %s", shown(was), from, size, shown(d.Files()))
	}
}

// mustStand holds a log's three places against those that are asked for.
func mustStand(t testing.TB, l *wal.Log, base, next, safe int) {
	t.Helper()
	if l.Base() != base || l.Next() != next || l.Safe() != safe {
		t.Errorf("Base %d, Next %d, Safe %d; want %d, %d, %d", l.Base(), l.Next(), l.Safe(), base, next, safe)
	}
}

// mustLie holds a disk's files, and how many steps it has done, against those that are asked for.
func mustLie(t testing.TB, d *disk.Disk, steps int, want ...api.File) {
	t.Helper()
	if got := d.Files(); !slices.Equal(got, want) || d.Steps() != steps {
		t.Errorf("files %s, Steps %d; want %s, %d", shown(got), d.Steps(), shown(want), steps)
	}
}

// mustRead holds the records of a log from a place on, and that there is none ahead of it or behind them, against those that are asked for.
func mustRead(t testing.TB, l *wal.Log, base int, want ...string) {
	t.Helper()
	for i, w := range want {
		if s, e := l.Read(base + i); s != w || e != api.OK {
			t.Errorf("Read(%d) = %.40q, %d; want %.40q", base+i, s, e, w)
		}
	}
	end := base + len(want)
	for _, place := range []int{base - 1, end, end + 1, -1, math.MinInt, math.MaxInt} {
		if s, e := l.Read(place); s != "" || e != api.ErrNoRecord {
			t.Errorf("Read(%d) = %.40q, %d; want ErrNoRecord", place, s, e)
		}
	}
}

// mustAppend appends records, the first of which must come to a place.
func mustAppend(t testing.TB, l *wal.Log, place int, records ...string) {
	t.Helper()
	for i, r := range records {
		if n, e := l.Append(r); n != place+i || e != api.OK {
			t.Fatalf("Append(%.40q) = %d, %d; want %d", r, n, e, place+i)
		}
	}
}

// mustRefuse holds it that a record is not appended.
func mustRefuse(t testing.TB, l *wal.Log, data string, want api.Errno) {
	t.Helper()
	next := l.Next()
	if n, e := l.Append(data); n != 0 || e != want || l.Next() != next {
		t.Errorf("Append(%.40q) = %d, %d, Next %d; want 0, %d, %d", data, n, e, l.Next(), want, next)
	}
}

// mustBe holds an error against the one that is asked for.
func mustBe(t testing.TB, what string, got, want api.Errno) {
	t.Helper()
	if got != want {
		t.Errorf("%q: %d; want %d", what, got, want)
	}
}

func TestL1OpenOfNone(t *testing.T) {
	for _, from := range []int{0, 1, 5, 999, places - 2, places - 1} {
		for _, size := range []int{1, 2, 1023, 1024} {
			other := api.File{Name: "a", Data: "xyz", Safe: 1}
			d := newDisk(t, 100, other)
			l := mustOpen(t, d, from, size)
			mustStand(t, l, from, from, from)
			mustRead(t, l, from)
			mustLie(t, d, 0, other)
		}
	}
}

func TestL1WrongNumbers(t *testing.T) {
	for _, c := range [][2]int{
		{-1, 1}, {-5, 4}, {math.MinInt, 4}, {places, 1}, {places + 1, 4}, {math.MaxInt, 4},
		{0, 0}, {5, 0}, {0, -1}, {0, math.MinInt}, {0, 1025}, {5, 1026}, {0, math.MaxInt}, {-1, 0}, {places, 1025},
	} {
		mustFail(t, newDisk(t, 100), c[0], c[1], api.ErrArg)
		// It is told ahead of what is wrong with the disk.
		mustFail(t, newDisk(t, 100, api.File{Name: "log.5"}), c[0], c[1], api.ErrArg)
		mustFail(t, newDisk(t, 100, torn(0, "x", "a")), c[0], c[1], api.ErrArg)
		mustFail(t, fallen(t), c[0], c[1], api.ErrArg)
	}
}

// fallen is a disk that is down, with files of a log or with some that make none.
func fallen(t *testing.T, l ...api.File) *disk.Disk {
	d := newDisk(t, 1000, l...)
	mustBe(t, "Arm", d.Arm(0), api.OK)
	mustBe(t, "Append", d.Append("a", "x"), api.ErrDown)
	return d
}

func TestL1Down(t *testing.T) {
	mustFail(t, fallen(t), 0, 4, api.ErrDown)
	mustFail(t, fallen(t, seg(0, "a")), 0, 4, api.ErrDown)
	mustFail(t, fallen(t, torn(0, "x", "a")), 0, 4, api.ErrDown)
	mustFail(t, fallen(t, api.File{Name: "log.5"}), 0, 4, api.ErrDown)
	mustFail(t, fallen(t, seg(0), seg(2)), 0, 4, api.ErrDown)
}

func TestL1NoSegmentsName(t *testing.T) {
	for _, name := range []string{
		"log.", "log.5", "log.0", "log.00000000005", "log.99999999999", "log.a", "log.00000000000a", "log.a00000000000", "log.00000x000000",
		"log.-00000000005", "log.0000000000-5", "log.-5", "log.-99999999999", "log.0000000000.5", "log..00000000005", "log.00000000005.", "log.log.00000000",
		"log..", "log.-", "log.mend", "log.0x0000000005", "log.0b0000000001", "log.1e0000000001", "log.1-0000000000",
	} {
		bad := api.File{Name: name, Data: wrapped("a"), Safe: 2}
		mustFail(t, newDisk(t, 1000, bad), 0, 4, api.ErrLog)
		mustFail(t, newDisk(t, 1000, bad, seg(3, "a")), 0, 4, api.ErrLog)
		// Nothing is mended, nor synced, where it is told.
		mustFail(t, newDisk(t, 1000, bad, torn(999999999999, "x", "a")), 0, 4, api.ErrLog)
		mustFail(t, newDisk(t, 1000, bad, unsafely(seg(999999999999, "a"), 0)), 0, 4, api.ErrLog)
	}
}

func TestL1OtherFiles(t *testing.T) {
	for _, name := range []string{
		"log", "logs", "log-5", "log-000000000005", "lo.000000000005", "alog.5", "x.log.5", "l", "mend", "mend.", "000000000005", ".log.5", "-log.5",
	} {
		other := api.File{Name: name, Data: "torn", Safe: 1}
		d := newDisk(t, 1000, other)
		mustStand(t, mustOpen(t, d, 7, 4), 7, 7, 7)
		mustLie(t, d, 0, other)
		d = newDisk(t, 1000, other, seg(3, "a"))
		mustStand(t, mustOpen(t, d, 7, 4), 3, 4, 4)
		want := []api.File{other, seg(3, "a")}
		slices.SortFunc(want, func(a, b api.File) int { return strings.Compare(a.Name, b.Name) })
		mustLie(t, d, 1, want...)
	}
}

func TestL1SegmentsThatDoNotMeet(t *testing.T) {
	for _, c := range [][]api.File{
		{seg(0, "a"), seg(2)},
		{seg(0, "a"), seg(2, "b")},
		{seg(0), seg(1)},
		{seg(0), seg(1, "a")},
		{seg(0, "a", "b"), seg(1)},
		{seg(0, "a", "b"), seg(1, "b")},
		{seg(0, "a", "b", "c"), seg(1, "b", "c")},
		{seg(5, "a"), seg(7, "b")},
		{seg(5, "a"), seg(999999999999, "b")},
		{seg(0, "a"), seg(1, "b"), seg(3, "d")},
		{seg(0, "a"), seg(2, "c"), seg(3, "d")},
		{seg(0), seg(1), seg(2)},
		// Just whole frames count.
		{torn(0, wrapped("b")[:6], "a"), seg(2, "c")},
		{torn(0, "x"+wrapped("b"), "a"), seg(2, "c")},
		{torn(0, "x", "a", "b"), seg(1, "b")},
		{seg(0, "a"), torn(2, "x", "c")},
		{seg(0, "a"), seg(2, "c"), torn(3, "x")},
	} {
		mustFail(t, newDisk(t, 1000, c...), 0, 4, api.ErrLog)
		mustFail(t, newDisk(t, 1000, c...), c[0].Safe, 1, api.ErrLog)
	}
}

func TestL1SegmentsThatMeet(t *testing.T) {
	for _, c := range []struct {
		l       []api.File
		base    int
		records []string
	}{
		{[]api.File{seg(0)}, 0, nil},
		{[]api.File{seg(5)}, 5, nil},
		{[]api.File{seg(999999999999)}, places - 1, nil},
		{[]api.File{seg(5, "a")}, 5, []string{"a"}},
		{[]api.File{seg(5, "", "", "")}, 5, []string{"", "", ""}},
		{[]api.File{seg(0, "a"), seg(1)}, 0, []string{"a"}},
		{[]api.File{seg(8, "a", "b"), seg(10, "c"), seg(11, "d", "", "f", "g"), seg(15)}, 8, []string{"a", "b", "c", "d", "", "f", "g"}},
		{[]api.File{seg(99, "a"), seg(100, "b")}, 99, []string{"a", "b"}},
		// Segments of more records than size are taken.
		{[]api.File{seg(0, strings.Split(strings.Repeat("xy ", 1500), " ")...)}, 0, strings.Split(strings.Repeat("xy ", 1500), " ")},
		{[]api.File{seg(999999999998, "a"), seg(999999999999, "b", "c", "d")}, places - 2, []string{"a", "b", "c", "d"}},
		{[]api.File{seg(3, strings.Repeat("\xff", 4096), "\x00")}, 3, []string{strings.Repeat("\xff", 4096), "\x00"}},
	} {
		for _, from := range []int{0, 5, places - 1} {
			d := newDisk(t, 20000, c.l...)
			l := mustOpen(t, d, from, 2)
			end := c.base + len(c.records)
			mustStand(t, l, c.base, end, end)
			mustRead(t, l, c.base, c.records...)
			mustLie(t, d, 1, c.l...)
		}
	}
}

// Segments that are handed over in any order are read by rising places.
func TestL1RisingPlaces(t *testing.T) {
	d := newDisk(t, 1000, seg(11, "d"), seg(9, "b"), seg(8, "a"), seg(10, "c"))
	mustRead(t, mustOpen(t, d, 0, 4), 8, "a", "b", "c", "d")
}

// A torn segment behind which another one stands is taken by its whole frames, and stays.
func TestL1TornAhead(t *testing.T) {
	l := []api.File{torn(0, "x", "a"), unsafely(torn(1, wrapped("c")[:6], "b"), 3), seg(2, "c")}
	d := newDisk(t, 1000, l...)
	mustRead(t, mustOpen(t, d, 0, 4), 0, "a", "b", "c")
	mustLie(t, d, 1, l...)
}

// The last segment, if it is not torn, is synced: just it, once, though it is safe.
func TestL1Synced(t *testing.T) {
	ahead := unsafely(seg(0, "a"), 2)
	for safe := range 15 {
		d := newDisk(t, 1000, ahead, unsafely(seg(1, "b", "c"), safe))
		mustStand(t, mustOpen(t, d, 0, 4), 0, 3, 3)
		mustLie(t, d, 1, ahead, seg(1, "b", "c"))
	}
	d := newDisk(t, 1000, unsafely(seg(1, "b"), 3))
	mustBe(t, "Arm", d.Arm(0), api.OK)
	mustFail(t, d, 0, 4, api.ErrDown)
	if !d.Down() {
		t.Error("the disk has not fallen at Open's step")
	}
}

// tails are bytes behind the last whole frame.
func tails() []string {
	return []string{
		"x", "\x00", wrapped("")[:5], wrapped("abc")[:1], wrapped("abc")[:6], wrapped("abc")[:8], "\x00\x00\x00\x00\x00\x00", "x" + wrapped("d"), "\x00\x00\xff\x12\xd9\x40" + wrapped("d"), strings.Repeat("\xff", 500),
	}
}

func TestL1Mended(t *testing.T) {
	for _, tail := range tails() {
		for _, records := range [][]string{nil, {""}, {"a"}, {"a", "bc", ""}} {
			for _, safe := range []int{0, 1, len(wrapped(records...))} {
				broken := unsafely(torn(7, tail, records...), safe)
				want := []api.File{seg(6, "-"), seg(7, records...)}
				d := newDisk(t, 2000, seg(6, "-"), broken)
				l := mustOpen(t, d, 0, 4)
				mustStand(t, l, 6, 7+len(records), 7+len(records))
				mustRead(t, l, 6, append([]string{"-"}, records...)...)
				mustLie(t, d, 3, want...)
				// One that is left of an earlier mending is removed, whatever is in it.
				for _, old := range []string{"", "old", wrapped("old"), wrapped(records...)} {
					d = newDisk(t, 2000, seg(6, "-"), broken, api.File{Name: "mend", Data: old, Safe: len(old) / 2})
					mustRead(t, mustOpen(t, d, 0, 4), 6, append([]string{"-"}, records...)...)
					mustLie(t, d, 4, want...)
				}
			}
		}
	}
}

// Each step of mending in turn is the one at which the power fails: what stands on the disk then is what the steps ahead of it made.
func TestL1MendingFalls(t *testing.T) {
	broken, old := torn(7, "torn", "a", "b"), api.File{Name: "mend", Data: "old", Safe: 3}
	whole := wrapped("a", "b")
	unsafeMend, safeMend := api.File{Name: "mend", Data: whole}, api.File{Name: "mend", Data: whole, Safe: len(whole)}
	for fall, left := range [][]api.File{{broken, old}, {broken}, {broken, unsafeMend}, {broken, safeMend}} {
		d := newDisk(t, 1000, broken, old)
		mustBe(t, "Arm", d.Arm(fall), api.OK)
		if l, e := wal.Open(d, 0, 4); l != nil || e != api.ErrDown {
			t.Errorf("fall %d: a log %t, %d", fall, l != nil, e)
		}
		mustLie(t, d, fall, left...)
		if fall > 0 {
			d = newDisk(t, 1000, broken)
			mustBe(t, "Arm", d.Arm(fall-1), api.OK)
			if l, e := wal.Open(d, 0, 4); l != nil || e != api.ErrDown || !d.Down() {
				t.Errorf("without the old one, fall %d: a log %t, %d", fall-1, l != nil, e)
			}
			mustLie(t, d, fall-1, left...)
		}
	}
}

// A disk that has no room for the mended segment tells so; the torn one stays.
func TestL1NoRoomToMend(t *testing.T) {
	broken := torn(7, "torn", "a", "b")
	room := len(broken.Data) + len(wrapped("a", "b"))
	mustFail(t, newDisk(t, room-1, broken), 0, 4, api.ErrFull)
	mustStand(t, mustOpen(t, newDisk(t, room, broken), 0, 4), 7, 9, 9)
	old := api.File{Name: "mend", Data: strings.Repeat("x", len(wrapped("a", "b")))}
	mustStand(t, mustOpen(t, newDisk(t, room, broken, old), 0, 4), 7, 9, 9)

	many := []api.File{broken}
	for i := range 63 {
		many = append(many, api.File{Name: fmt.Sprintf("f%d", i)})
	}
	mustFail(t, newDisk(t, 1000, many...), 0, 4, api.ErrFull)
	many[63].Name = "mend"
	mustStand(t, mustOpen(t, newDisk(t, 1000, many...), 0, 4), 7, 9, 9)
}

// New records go on in the last segment, mended or not, though it was begun by a log of another size.
func TestL1GoesOnInTheLast(t *testing.T) {
	for _, last := range []api.File{seg(1, "b", "c"), torn(1, "x", "b", "c")} {
		d := newDisk(t, 1000, seg(0, "a"), last)
		l := mustOpen(t, d, 0, 4)
		steps := d.Steps()
		mustAppend(t, l, 3, "d", "e")
		mustLie(t, d, steps+2, seg(0, "a"), unsafely(seg(1, "b", "c", "d", "e"), 14))
		mustAppend(t, l, 5, "f")
		mustLie(t, d, steps+4, seg(0, "a"), seg(1, "b", "c", "d", "e"), unsafely(seg(5, "f"), 0))
	}
	for size, want := range map[int][]api.File{
		1: {seg(0, "a"), seg(1, "b", "c"), unsafely(seg(3, "d"), 0)},
		2: {seg(0, "a"), seg(1, "b", "c"), unsafely(seg(3, "d"), 0)},
		3: {seg(0, "a"), unsafely(seg(1, "b", "c", "d"), 14)},
	} {
		d := newDisk(t, 1000, seg(0, "a"), seg(1, "b", "c"))
		mustAppend(t, mustOpen(t, d, 0, size), 3, "d")
		mustLie(t, d, 2, want...)
	}
	d := newDisk(t, 1000, seg(4))
	mustAppend(t, mustOpen(t, d, 0, 1), 4, "a", "b")
	mustLie(t, d, 4, seg(4, "a"), unsafely(seg(5, "b"), 0))
}

func TestL2Places(t *testing.T) {
	d := newDisk(t, 1000)
	l := mustOpen(t, d, 5, 2)
	mustStand(t, l, 5, 5, 5)
	mustAppend(t, l, 5, "a", "b")
	mustStand(t, l, 5, 7, 5)
	mustAppend(t, l, 7, "c")
	mustStand(t, l, 5, 8, 7)
	mustBe(t, "Sync", l.Sync(), api.OK)
	mustStand(t, l, 5, 8, 8)
	mustAppend(t, l, 8, "d")
	mustStand(t, l, 5, 9, 8)
	mustBe(t, "Truncate", l.Truncate(8), api.OK)
	mustStand(t, l, 7, 9, 8)
	mustStand(t, mustOpen(t, d, 5, 2), 7, 9, 9)
}

func TestL3Append(t *testing.T) {
	d := newDisk(t, 1000)
	l := mustOpen(t, d, 5, 2)
	mustAppend(t, l, 5, "a")
	mustLie(t, d, 1, unsafely(seg(5, "a"), 0))
	mustAppend(t, l, 6, "b")
	mustLie(t, d, 2, unsafely(seg(5, "a", "b"), 0))
	mustAppend(t, l, 7, "c")
	mustLie(t, d, 4, seg(5, "a", "b"), unsafely(seg(7, "c"), 0))
	mustBe(t, "Sync", l.Sync(), api.OK)
	mustAppend(t, l, 8, "d")
	mustLie(t, d, 6, seg(5, "a", "b"), unsafely(seg(7, "c", "d"), 7))
	mustBe(t, "Sync", l.Sync(), api.OK)
	// All is safe: the new segment is begun in one step.
	mustAppend(t, l, 9, "")
	mustLie(t, d, 8, seg(5, "a", "b"), seg(7, "c", "d"), unsafely(seg(9, ""), 0))
	mustStand(t, l, 5, 10, 9)
	mustRead(t, l, 5, "a", "b", "c", "d", "")
}

// Each segment has just as many records as the log was opened with.
func TestL3EachSize(t *testing.T) {
	for _, size := range []int{1, 2, 3, 7, 1023, 1024} {
		d := newDisk(t, 100000)
		l := mustOpen(t, d, 0, size)
		var want []api.File
		for s := range 3 {
			mustAppend(t, l, s*size, make([]string, size)...)
			want = append(want, seg(s*size, make([]string, size)...))
		}
		mustBe(t, "Sync", l.Sync(), api.OK)
		mustLie(t, d, 3*size+3, want...)
	}
}

func TestL3Long(t *testing.T) {
	for _, count := range []int{4097, 4098, 8192, 65536, 65537, 1 << 20} {
		long := strings.Repeat("x", count)
		d := newDisk(t, 10000)
		l := mustOpen(t, d, 5, 1)
		mustRefuse(t, l, long, api.ErrLong)
		mustLie(t, d, 0)
		mustAppend(t, l, 5, long[:4096])
		mustRefuse(t, l, long, api.ErrLong)
		// The full segment is not synced, and an armed disk does not fall.
		mustBe(t, "Arm", d.Arm(0), api.OK)
		mustRefuse(t, l, long, api.ErrLong)
		mustStand(t, l, 5, 6, 5)
		mustLie(t, d, 1, unsafely(seg(5, long[:4096]), 0))
		mustRefuse(t, l, "a", api.ErrDown)
		mustRefuse(t, l, long, api.ErrLong)
	}
}

func TestL3LastPlaces(t *testing.T) {
	d := newDisk(t, 1000)
	l := mustOpen(t, d, places-3, 2)
	mustAppend(t, l, places-3, "a", "b", "c")
	mustLie(t, d, 4, seg(999999999997, "a", "b"), unsafely(seg(999999999999, "c"), 0))
	mustRefuse(t, l, "d", api.ErrLong)
	mustRefuse(t, l, "", api.ErrLong)
	mustStand(t, l, places-3, places, places-1)
	mustLie(t, d, 4, seg(999999999997, "a", "b"), unsafely(seg(999999999999, "c"), 0))
	mustBe(t, "Arm", d.Arm(0), api.OK)
	mustBe(t, "Sync", l.Sync(), api.ErrDown)
	mustRefuse(t, l, "d", api.ErrLong)

	l = mustOpen(t, newDisk(t, 1000, seg(places-1, "a", "b", "c")), 0, 9)
	mustRefuse(t, l, "d", api.ErrLong)
	mustStand(t, l, places-1, places+2, places+2)
	mustRead(t, l, places-1, "a", "b", "c")
	mustBe(t, "Truncate", l.Truncate(places+2), api.OK)
	mustBe(t, "Truncate", l.Truncate(places+3), api.ErrArg)
}

// Where the disk refuses the frame there is no such record; where a new segment was to be begun there is none, but the one ahead of it is safe.
func TestL3NoRoom(t *testing.T) {
	d := newDisk(t, 20)
	l := mustOpen(t, d, 5, 2)
	mustRefuse(t, l, "123456789012345", api.ErrFull)
	mustLie(t, d, 0)
	mustStand(t, l, 5, 5, 5)
	mustAppend(t, l, 5, "a")
	mustRefuse(t, l, "12345678", api.ErrFull)
	mustLie(t, d, 1, unsafely(seg(5, "a"), 0))
	mustStand(t, l, 5, 6, 5)
	mustAppend(t, l, 6, "b")
	mustRefuse(t, l, "c", api.ErrFull)
	mustLie(t, d, 3, seg(5, "a", "b"))
	mustStand(t, l, 5, 7, 7)
	mustRead(t, l, 5, "a", "b")
	mustBe(t, "Truncate to a segment that is none", l.Truncate(7), api.OK)
	mustBe(t, "Sync", l.Sync(), api.OK)
	mustLie(t, d, 3, seg(5, "a", "b"))
	mustAppend(t, l, 7, "")
	mustLie(t, d, 4, seg(5, "a", "b"), unsafely(seg(7, ""), 0))
	mustStand(t, l, 5, 8, 7)
}

func TestL3TooManyFiles(t *testing.T) {
	d := newDisk(t, 1000)
	l := mustOpen(t, d, 0, 1)
	mustAppend(t, l, 0, make([]string, 64)...)
	mustStand(t, l, 0, 64, 63)
	mustRefuse(t, l, "", api.ErrFull)
	mustStand(t, l, 0, 64, 64)
	mustBe(t, "Truncate", l.Truncate(1), api.OK)
	mustAppend(t, l, 64, "")
	mustStand(t, l, 1, 65, 64)
}

func TestL3Falls(t *testing.T) {
	d := newDisk(t, 1000)
	l := mustOpen(t, d, 0, 1)
	mustBe(t, "Arm", d.Arm(0), api.OK)
	mustRefuse(t, l, "a", api.ErrDown)
	mustStand(t, l, 0, 0, 0)
	d.Crash()
	l = mustOpen(t, d, 0, 1)
	mustAppend(t, l, 0, "a")
	mustBe(t, "Arm", d.Arm(0), api.OK)
	mustRefuse(t, l, "b", api.ErrDown)
	mustStand(t, l, 0, 1, 0)
	mustLie(t, d, 1, unsafely(seg(0, "a"), 0))
	d.Crash(99)
	l = mustOpen(t, d, 0, 1)
	mustAppend(t, l, 1, "b")
	mustBe(t, "Arm", d.Arm(1), api.OK)
	// The last segment is synced yet; the new one is not begun.
	mustRefuse(t, l, "c", api.ErrDown)
	mustStand(t, l, 0, 2, 2)
	mustBe(t, "Truncate where one is to be removed", l.Truncate(2), api.ErrDown)
	mustLie(t, d, 4, seg(0, "a"), seg(1, "b"))
}

func TestL4Sync(t *testing.T) {
	d := newDisk(t, 1000)
	l := mustOpen(t, d, 5, 2)
	mustBe(t, "Sync of none", l.Sync(), api.OK)
	mustLie(t, d, 0)
	mustAppend(t, l, 5, "a", "b", "c")
	mustBe(t, "Sync", l.Sync(), api.OK)
	mustStand(t, l, 5, 8, 8)
	mustLie(t, d, 5, seg(5, "a", "b"), seg(7, "c"))
	mustBe(t, "Sync again", l.Sync(), api.OK)
	mustLie(t, d, 5, seg(5, "a", "b"), seg(7, "c"))
	mustAppend(t, l, 8, "d")
	mustBe(t, "Arm", d.Arm(0), api.OK)
	mustBe(t, "Sync", l.Sync(), api.ErrDown)
	mustBe(t, "Sync", l.Sync(), api.ErrDown)
	mustStand(t, l, 5, 9, 8)
	mustLie(t, d, 6, seg(5, "a", "b"), unsafely(seg(7, "c", "d"), 7))
}

// Where all is safe nothing is done, though the disk is down.
func TestL4NothingToDo(t *testing.T) {
	d := newDisk(t, 1000, seg(3, "a"))
	l := mustOpen(t, d, 0, 2)
	mustBe(t, "Arm", d.Arm(0), api.OK)
	mustBe(t, "Sync", l.Sync(), api.OK)
	mustRefuse(t, l, "b", api.ErrDown)
	mustBe(t, "Sync of a disk that is down", l.Sync(), api.OK)
	mustStand(t, l, 3, 4, 4)
}

func TestL5Read(t *testing.T) {
	d := newDisk(t, 20000)
	l := mustOpen(t, d, 5, 2)
	mustRead(t, l, 5)
	records := []string{"a", "", "\x00", wrapped("inner"), strings.Repeat("\xff", 4096), "é", "a"}
	for i, r := range records {
		mustAppend(t, l, 5+i, r)
		mustRead(t, l, 5, records[:i+1]...)
	}
	mustBe(t, "Sync", l.Sync(), api.OK)
	mustRead(t, l, 5, records...)
	mustRead(t, mustOpen(t, d, 0, 9), 5, records...)
	mustBe(t, "Truncate", l.Truncate(10), api.OK)
	mustRead(t, l, 9, records[4:]...)
}

// The disk is not asked: neither a fall, nor what happens to its files, changes what is read.
func TestL5TheDiskIsNotAsked(t *testing.T) {
	d := newDisk(t, 1000, seg(3, "a"), seg(4, "b"))
	l := mustOpen(t, d, 0, 1)
	mustAppend(t, l, 5, "c")
	mustBe(t, "Arm", d.Arm(0), api.OK)
	mustBe(t, "Sync", l.Sync(), api.ErrDown)
	mustRead(t, l, 3, "a", "b", "c")
	if d.Steps() != 2 {
		t.Errorf("Steps %d", d.Steps())
	}
}

func TestL6Truncate(t *testing.T) {
	all := []api.File{seg(5, "a", "b"), seg(7, "c"), seg(8, "d", "e", "f"), seg(11, "g", "h")}
	records := []string{"a", "b", "c", "d", "e", "f", "g", "h"}
	for place := -2; place <= 15; place++ {
		d := newDisk(t, 1000, all...)
		l := mustOpen(t, d, 0, 2)
		if place < 0 || place > 13 {
			mustBe(t, "Truncate", l.Truncate(place), api.ErrArg)
			mustStand(t, l, 5, 13, 13)
			mustLie(t, d, 1, all...)
			continue
		}
		gone, base := 0, 5
		for i, first := range []int{7, 8, 11} {
			if place >= first {
				gone, base = i+1, first
			}
		}
		for range 2 {
			mustBe(t, "Truncate", l.Truncate(place), api.OK)
			mustStand(t, l, base, 13, 13)
			mustRead(t, l, base, records[base-5:]...)
			mustLie(t, d, 1+gone, all[gone:]...)
		}
		mustAppend(t, l, 13, "i")
		mustRead(t, l, base, append(slices.Clone(records[base-5:]), "i")...)
	}
}

func TestL6Wrong(t *testing.T) {
	l := mustOpen(t, newDisk(t, 1000), 5, 1)
	mustAppend(t, l, 5, "a", "b", "c")
	for _, place := range []int{-1, -5, math.MinInt, 8, 9, math.MaxInt} {
		mustBe(t, "Truncate", l.Truncate(place), api.ErrArg)
	}
	mustStand(t, l, 5, 8, 7)
	mustBe(t, "Truncate to Safe", l.Truncate(7), api.OK)
	mustStand(t, l, 7, 8, 7)
	mustBe(t, "Truncate below Base", l.Truncate(0), api.OK)
	mustBe(t, "Truncate behind Safe", l.Truncate(8), api.ErrArg)
	mustStand(t, l, 7, 8, 7)
}

// A log without a segment, or with one alone, has nothing that Truncate removes, and a disk that is down is not asked then.
func TestL6NothingToRemove(t *testing.T) {
	d := newDisk(t, 1000)
	l := mustOpen(t, d, 5, 4)
	mustBe(t, "Truncate", l.Truncate(5), api.OK)
	mustBe(t, "Truncate", l.Truncate(6), api.ErrArg)
	mustStand(t, l, 5, 5, 5)
	mustAppend(t, l, 5, "a", "b")
	mustBe(t, "Sync", l.Sync(), api.OK)
	mustBe(t, "Arm", d.Arm(0), api.OK)
	mustBe(t, "Truncate", l.Truncate(7), api.OK)
	mustRefuse(t, l, "c", api.ErrDown)
	mustBe(t, "Truncate", l.Truncate(7), api.OK)
	mustRead(t, l, 5, "a", "b")
	mustLie(t, d, 3, seg(5, "a", "b"))
}

// At an error it ends: what was removed is gone, the rest is kept.
func TestL6Falls(t *testing.T) {
	all := []api.File{seg(0, "a"), seg(1, "b"), seg(2, "c"), seg(3, "d")}
	for fall := range 4 {
		d := newDisk(t, 1000, all...)
		l := mustOpen(t, d, 0, 1)
		mustBe(t, "Arm", d.Arm(fall), api.OK)
		want := api.ErrDown
		if fall == 3 {
			want = api.OK
		}
		mustBe(t, "Truncate", l.Truncate(4), want)
		mustBe(t, "Truncate again", l.Truncate(4), want)
		mustStand(t, l, fall, 4, 4)
		mustRead(t, l, fall, []string{"a", "b", "c", "d"}[fall:]...)
		mustLie(t, d, 1+fall, all[fall:]...)
	}
}

// The chapter's examples, one behind the other.
func TestL1ToL6Examples(t *testing.T) {
	d := newDisk(t, 1000)
	l := mustOpen(t, d, 5, 2)
	mustAppend(t, l, 5, "a", "b", "c")
	mustBe(t, "Sync", l.Sync(), api.OK)
	mustBe(t, "Truncate", l.Truncate(6), api.OK)
	mustRead(t, l, 5, "a", "b", "c")
	mustBe(t, "Truncate", l.Truncate(7), api.OK)
	mustRead(t, l, 7, "c")
	mustBe(t, "Truncate", l.Truncate(9), api.ErrArg)
	mustAppend(t, l, 8, "d")
	d.Crash(3)
	mustLie(t, d, 7, torn(7, wrapped("d")[:3], "c"))
	l = mustOpen(t, d, 5, 2)
	mustLie(t, d, 10, seg(7, "c"))
	mustStand(t, l, 7, 8, 8)
	mustRead(t, l, 7, "c")
}
