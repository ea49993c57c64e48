package locks_test

import (
	"fmt"
	"math"
	"slices"
	"strings"
	"testing"

	"unison/api"
	"unison/locks"
)

// r and w are locks of the table 0, to read and to write; of is one of another table.
func r(lo, hi string) api.Lock { return api.Lock{Lo: lo, Hi: hi} }

func w(lo, hi string) api.Lock { return api.Lock{Lo: lo, Hi: hi, Write: true} }

func of(table int, l api.Lock) api.Lock {
	l.Table = table
	return l
}

func shown(l ...api.Lock) string {
	var out []string
	for _, x := range l {
		out = append(out, fmt.Sprintf("%d, %q to %q, %t", x.Table, x.Lo, x.Hi, x.Write))
	}
	return strings.Join(out, "; ")
}

// ask is a place and the locks for which it asks.
type ask struct {
	pos   int
	locks []api.Lock
}

func (a ask) String() string { return fmt.Sprintf("%d: %s", a.pos, shown(a.locks...)) }

func at(pos int, l ...api.Lock) ask { return ask{pos: pos, locks: l} }

// held is a table in which these places were asked for.
func held(t testing.TB, l ...ask) *locks.Table {
	t.Helper()
	x := locks.New()
	if x == nil {
		t.Fatal("New: none")
	}
	for _, a := range l {
		mustAsk(t, x, api.OK, a.pos, a.locks...)
	}
	return x
}

func mustAsk(t testing.TB, x *locks.Table, want api.Errno, pos int, l ...api.Lock) {
	t.Helper()
	if e := x.Ask(pos, l...); e != want {
		t.Errorf("Ask(%d, %.200s) = %d; want %d", pos, shown(l...), e, want)
	}
}

func mustRelease(t testing.TB, x *locks.Table, want api.Errno, l ...int) {
	t.Helper()
	for _, pos := range l {
		if e := x.Release(pos); e != want {
			t.Errorf("Release(%d) = %d; want %d", pos, e, want)
		}
	}
}

func mustHold(t testing.TB, x *locks.Table, want ...int) {
	t.Helper()
	if l := x.Held(); !slices.Equal(l, want) {
		t.Errorf("Held = %v; want %v", l, want)
	}
}

// mustBeReady holds Ready, and Granted of each place about, against the places that are wanted.
func mustBeReady(t testing.TB, x *locks.Table, want ...int) {
	t.Helper()
	if l := x.Ready(); !slices.Equal(l, want) {
		t.Errorf("Ready = %v; want %v", l, want)
	}
	for pos := -2; pos < 20; pos++ {
		if ok := x.Granted(pos); ok != slices.Contains(want, pos) {
			t.Errorf("Granted(%d) = %t; Ready is %v", pos, ok, want)
		}
	}
}

func mustWait(t testing.TB, x *locks.Table, pos int, want ...int) {
	t.Helper()
	if l, e := x.Waits(pos); e != api.OK || !slices.Equal(l, want) {
		t.Errorf("Waits(%d) = %v, %d; want %v", pos, l, e, want)
	}
}

func mustHave(t testing.TB, x *locks.Table, pos int, want ...api.Lock) {
	t.Helper()
	if l, e := x.Locks(pos); e != api.OK || !slices.Equal(l, want) {
		t.Errorf("Locks(%d) = %.200s, %d; want %.200s", pos, shown(l...), e, shown(want...))
	}
}

// mustBeShut holds it that a place is not open, whatever is asked of it.
func mustBeShut(t testing.TB, x *locks.Table, pos int) {
	t.Helper()
	if slices.Contains(x.Held(), pos) || slices.Contains(x.Ready(), pos) || x.Granted(pos) {
		t.Errorf("%d is open: %v, %v, %t", pos, x.Held(), x.Ready(), x.Granted(pos))
	}
	if l, e := x.Waits(pos); e != api.ErrArg || len(l) != 0 {
		t.Errorf("Waits(%d) = %v, %d", pos, l, e)
	}
	if l, e := x.Locks(pos); e != api.ErrArg || len(l) != 0 {
		t.Errorf("Locks(%d) = %v, %d", pos, l, e)
	}
	mustRelease(t, x, api.ErrArg, pos)
}

func mustConflict(t testing.TB, a, b api.Lock, want bool) {
	t.Helper()
	if ok := locks.Conflict(a, b); ok != want {
		t.Errorf("Conflict(%s) = %t", shown(a, b), ok)
	}
	if ok := locks.Conflict(b, a); ok != want {
		t.Errorf("Conflict(%s) = %t", shown(b, a), ok)
	}
}

func TestExamples(t *testing.T) {
	mustConflict(t, r("a", "c"), r("b", "d"), false)
	mustConflict(t, r("a", "c"), w("b", "d"), true)
	mustConflict(t, w("a", "b"), w("b", "c"), false)
	mustConflict(t, w("a", ""), w("z", ""), true)
	mustConflict(t, w("a", ""), of(1, w("z", "")), false)
	x := held(t, at(3, w("a", "b")), at(5, r("a", "c")), at(6, r("b", "c")))
	mustBeReady(t, x, 3, 6)
	mustWait(t, x, 5, 3)
	mustRelease(t, x, api.ErrArg, 5)
	mustRelease(t, x, api.OK, 3)
	mustBeReady(t, x, 5, 6)
	mustAsk(t, x, api.ErrArg, 4)
	mustAsk(t, x, api.ErrLock, 7, w("b", "a"))
	mustAsk(t, x, api.OK, 7)
	mustBeReady(t, x, 5, 6, 7)
}

// The texts of the right ranges, and of those that are not, by rising bytes.
func TestK1Right(t *testing.T) {
	for _, write := range []bool{false, true} {
		for table, want := range map[int]bool{math.MinInt: false, -8: false, -1: false, 0: true, 1: true, 6: true, 7: true, 8: false, 9: false, 1 << 32: false, math.MaxInt: false} {
			for _, l := range []api.Lock{r("", ""), r("a", ""), r("a", "b"), r("", "\x00"), r("\xff\xff", "")} {
				l.Table, l.Write = table, write
				if locks.Right(l) != want {
					t.Errorf("Right(%s) = %t", shown(l), !want)
				}
			}
		}
		for _, c := range []struct {
			lo, hi string
			want   bool
		}{
			{"a", "a", false}, {"b", "a", false}, {"a", "a\x00", true}, {"a\x00", "a", false}, {"a", "aa", true}, {"aa", "a", false},
			{"aa", "b", true}, {"b", "aa", false}, {"Z", "a", true}, {"a", "Z", false}, {"9", "10", false}, {"10", "9", true},
			{"\x7f", "\x80", true}, {"\x80", "\x7f", false}, {"z", "\xc3\xa9", true}, {"\xc3\xa9", "\xff", true}, {"\xff", "\xc3\xa9", false},
			{"\x00", "\x00", false}, {"\x00", "\x00\x00", true}, {"\xff", "\xff\x00", true}, {"\xff", "\xff", false},
		} {
			for table := range api.MaxTables {
				l := api.Lock{Table: table, Lo: c.lo, Hi: c.hi, Write: write}
				if locks.Right(l) != c.want {
					t.Errorf("Right(%s) = %t", shown(l), !c.want)
				}
			}
		}
	}
}

func TestK1Conflict(t *testing.T) {
	for _, c := range []struct {
		a, b api.Lock
		want bool
	}{
		{r("a", "c"), r("a", "c"), true}, {r("a", "c"), r("b", "d"), true}, {r("a", "d"), r("b", "c"), true}, {r("a", "b"), r("b", "c"), false},
		{r("a", "b"), r("c", "d"), false}, {r("a", "b\x00"), r("b", "c"), true}, {r("a", "b"), r("a\xff\xff", "c"), true}, {r("a", "a\x00"), r("a", "b"), true},
		{r("a", "a\x00"), r("a\x00", "b"), false}, {r("a", ""), r("z", ""), true}, {r("", ""), r("", ""), true}, {r("", ""), r("\xff", ""), true},
		{r("", "a"), r("a", ""), false}, {r("", "a"), r("", "b"), true}, {r("", "\x00"), r("", ""), true}, {r("", "\x00"), r("\x00", ""), false},
		{r("b", ""), r("a", "b"), false}, {r("b", ""), r("a", "b\x00"), true}, {r("a", ""), r("b", "c"), true}, {r("10", "9"), r("2", "3"), true},
		{r("\x7f", "\x80"), r("\x80", ""), false}, {r("z", "\xff"), r("\xc3\xa9", ""), true},
		{r("b", "a"), r("", ""), false}, {r("b", "a"), r("a", "b"), false}, {r("b", "a"), r("a", "c"), false}, {r("a", "a"), r("a", "b"), false},
		{r("a", "a"), r("", ""), false}, {r("a", "a"), r("a", "a"), false}, {r("b", "a"), r("b", "a"), false}, {r("c", "b"), r("a", ""), false},
	} {
		for _, table := range []int{math.MinInt, -1, 0, 1, 7, 8, math.MaxInt} {
			a, b := of(table, c.a), of(table, c.b)
			mustConflict(t, a, b, false)
			a.Write = true
			mustConflict(t, a, b, c.want)
			b.Write = true
			mustConflict(t, a, b, c.want)
			a.Write = false
			mustConflict(t, a, b, c.want)
		}
		for _, tables := range [][2]int{{0, 1}, {7, 0}, {-1, 0}, {8, 0}, {-1, 8}, {math.MinInt, math.MaxInt}, {1 << 32, 0}} {
			a, b := of(tables[0], c.a), of(tables[1], c.b)
			a.Write, b.Write = true, true
			mustConflict(t, a, b, false)
		}
	}
}

// words are all texts of some bytes that are at most so long.
func words(bytes string, long int) []string {
	all := []string{""}
	ahead := all
	for range long {
		var l []string
		for _, s := range ahead {
			for i := range len(bytes) {
				l = append(l, s+bytes[i:i+1])
			}
		}
		all, ahead = append(all, l...), l
	}
	return all
}

func within(l api.Lock, text string) bool {
	return text >= l.Lo && (l.Hi == "" || text < l.Hi)
}

// If any text lies in two ranges, then one that begins one of them does: all these are gone through.
func TestK1ConflictIsATextInBoth(t *testing.T) {
	texts := words("\x00a\xff", 2)
	var l []api.Lock
	for _, lo := range texts {
		for _, hi := range texts {
			l = append(l, w(lo, hi))
		}
	}
	for _, a := range l {
		for _, b := range l {
			both := slices.ContainsFunc(texts, func(s string) bool { return within(a, s) && within(b, s) })
			mustConflict(t, a, b, both)
			if a == b && locks.Right(a) != both {
				t.Errorf("Right(%s) = %t", shown(a), !both)
			}
		}
	}
}

func TestK2New(t *testing.T) {
	x := held(t)
	mustHold(t, x)
	mustBeReady(t, x)
	for _, pos := range []int{math.MinInt, -1, 0, 1, math.MaxInt} {
		mustBeShut(t, x, pos)
	}
	if locks.New() == x {
		t.Error("New told the same table twice")
	}
}

func TestK2AskPlaces(t *testing.T) {
	x := held(t)
	for _, pos := range []int{math.MinInt, -2, -1} {
		mustAsk(t, x, api.ErrArg, pos)
		mustAsk(t, x, api.ErrArg, pos, w("a", "b"))
	}
	mustAsk(t, x, api.OK, 0, w("a", "b"))
	mustHold(t, x, 0)
	mustAsk(t, x, api.ErrArg, 0)
	mustAsk(t, x, api.OK, 1)
	mustAsk(t, x, api.OK, 9, r("a", ""))
	for _, pos := range []int{math.MinInt, -1, 0, 1, 2, 5, 8, 9} {
		mustAsk(t, x, api.ErrArg, pos)
	}
	mustHold(t, x, 0, 1, 9)
	mustAsk(t, x, api.OK, math.MaxInt-1)
	mustAsk(t, x, api.OK, math.MaxInt)
	for _, pos := range []int{math.MinInt, -1, 0, 10, math.MaxInt - 1, math.MaxInt} {
		mustAsk(t, x, api.ErrArg, pos)
	}
	mustHold(t, x, 0, 1, 9, math.MaxInt-1, math.MaxInt)
	mustHold(t, held(t, at(7)), 7)
}

// A place that was freed was asked for, and so none below it comes any more, nor it itself; one that was refused was not.
func TestK2AskAboveAllThatWere(t *testing.T) {
	x := held(t, at(2), at(6, w("a", "")))
	mustRelease(t, x, api.OK, 6)
	for pos := range 7 {
		mustAsk(t, x, api.ErrArg, pos)
	}
	mustRelease(t, x, api.OK, 2)
	for pos := range 7 {
		mustAsk(t, x, api.ErrArg, pos)
	}
	mustHold(t, x)
	mustAsk(t, x, api.ErrLock, 100, r("a", "a"))
	mustAsk(t, x, api.ErrLock, math.MaxInt, r("a", "a"))
	mustAsk(t, x, api.OK, 7)
	mustHold(t, x, 7)
}

func TestK2AskWrongLocks(t *testing.T) {
	good := []api.Lock{r("", ""), w("a", "b"), of(7, r("a", ""))}
	for _, bad := range []api.Lock{r("a", "a"), w("b", "a"), of(8, w("a", "b")), of(-1, r("", "")), of(math.MinInt, r("", "")), of(math.MaxInt, w("", ""))} {
		x := held(t, at(1, w("a", "c")))
		for i := range len(good) + 1 {
			mustAsk(t, x, api.ErrLock, 2, slices.Insert(slices.Clone(good), i, bad)...)
		}
		mustAsk(t, x, api.ErrLock, 2, bad)
		mustAsk(t, x, api.ErrLock, 2, bad, bad)
		mustAsk(t, x, api.ErrArg, 1, bad)
		mustAsk(t, x, api.ErrArg, 0, bad)
		mustAsk(t, x, api.ErrArg, -1, bad)
		mustHold(t, x, 1)
		mustBeReady(t, x, 1)
		mustBeShut(t, x, 2)
		mustAsk(t, x, api.OK, 2, good...)
		mustHave(t, x, 2, good...)
	}
}

func TestK2AskAnyNumberOfLocks(t *testing.T) {
	var many []api.Lock
	for i := range 3000 {
		many = append(many, of(i%8, w(string([]byte{byte(i >> 8), byte(i)}), string([]byte{byte(i >> 8), byte(i), 0}))))
	}
	x := held(t, at(0), at(1, many...), at(2), at(3, many[2999]), at(4, w("\xff", "")))
	mustHave(t, x, 0)
	mustHave(t, x, 1, many...)
	mustBeReady(t, x, 0, 1, 2, 4)
	mustWait(t, x, 3, 1)
}

// Of what a place asks for, it stands in its own way with nothing.
func TestK3OwnLocks(t *testing.T) {
	x := held(t, at(0, w("a", "c"), w("b", "d"), r("", ""), w("a", "c")), at(1, of(1, w("", "")), of(1, w("", ""))))
	mustBeReady(t, x, 0, 1)
	mustWait(t, x, 0)
}

func TestK3Readers(t *testing.T) {
	x := held(t, at(0, r("a", "c")), at(1, r("a", "c")), at(2, w("b", "c")), at(3, r("a", "b")), at(4, r("b", "c")), at(5, of(1, w("b", "c"))))
	mustHold(t, x, 0, 1, 2, 3, 4, 5)
	mustBeReady(t, x, 0, 1, 3, 5)
	mustRelease(t, x, api.OK, 1)
	mustBeReady(t, x, 0, 3, 5)
	mustRelease(t, x, api.OK, 0)
	mustBeReady(t, x, 2, 3, 5)
	mustRelease(t, x, api.OK, 2)
	mustHold(t, x, 3, 4, 5)
	mustBeReady(t, x, 3, 4, 5)
}

// One of some locks that meets one of some others is enough, wherever both stand.
func TestK3AnyOfTheLocks(t *testing.T) {
	first := []api.Lock{r("a", "b"), of(1, w("a", "b")), of(2, r("a", "b")), w("c", "d")}
	apart := []api.Lock{r("a", "b"), of(1, r("b", "")), of(2, r("", "")), w("b", "c"), of(3, w("", ""))}
	mustBeReady(t, held(t, at(0, first...), at(1, apart...)), 0, 1)
	for _, meets := range []api.Lock{w("a", "b"), of(1, r("a", "")), of(2, w("", "a\x00")), r("c", "")} {
		for i := range len(apart) + 1 {
			x := held(t, at(0, first...), at(1, slices.Insert(slices.Clone(apart), i, meets)...))
			mustBeReady(t, x, 0)
			mustWait(t, x, 1, 0)
		}
	}
}

// What waits is waited for, as what is granted is; what only waits for one that waits does not wait for more.
func TestK4Waits(t *testing.T) {
	x := held(t, at(1, w("a", "b")), at(4, w("a", "c")), at(5, w("b", "c")), at(9, r("a", "b")), at(12, r("", "")), at(13))
	mustBeReady(t, x, 1, 13)
	mustWait(t, x, 1)
	mustWait(t, x, 4, 1)
	mustWait(t, x, 5, 4)
	mustWait(t, x, 9, 1, 4)
	mustWait(t, x, 12, 1, 4, 5)
	mustWait(t, x, 13)
	mustRelease(t, x, api.OK, 1)
	mustBeReady(t, x, 4, 13)
	mustWait(t, x, 4)
	mustWait(t, x, 5, 4)
	mustWait(t, x, 9, 4)
	mustWait(t, x, 12, 4, 5)
	mustRelease(t, x, api.OK, 4)
	mustBeReady(t, x, 5, 9, 13)
	mustWait(t, x, 12, 5)
	mustRelease(t, x, api.OK, 9, 5)
	mustBeReady(t, x, 12, 13)
	mustWait(t, x, 12)
	for pos := -1; pos < 20; pos++ {
		if pos != 12 && pos != 13 {
			mustBeShut(t, x, pos)
		}
	}
}

// Each place that is waited for is told once, however many of its locks are met.
func TestK4WaitsTellsAPlaceOnce(t *testing.T) {
	x := held(t, at(0, w("a", "b"), w("a", "b"), r("b", "c")), at(1, w("", ""), r("a", "b"), w("b", "c")))
	mustWait(t, x, 1, 0)
}

// Locks are told as they were asked for, twice those that came twice, of one that waits as well.
func TestK4Locks(t *testing.T) {
	l := []api.Lock{w("b", ""), r("a", "c"), w("b", ""), of(7, r("", "")), of(3, w("\x00\xff", "\xff\x00\x00")), r("a", "c"), r("a", "b")}
	x := held(t, at(0, w("", "")), at(5, l...), at(6, l[1]), at(7))
	mustWait(t, x, 5, 0)
	mustHave(t, x, 0, w("", ""))
	mustHave(t, x, 5, l...)
	mustHave(t, x, 6, l[1])
	mustHave(t, x, 7)
	mustRelease(t, x, api.OK, 0)
	mustHave(t, x, 5, l...)
	for _, pos := range []int{math.MinInt, -1, 0, 1, 4, 8, math.MaxInt} {
		mustBeShut(t, x, pos)
	}
}

func TestK5Release(t *testing.T) {
	x := held(t, at(0, w("a", "b")), at(2, w("a", "b")), at(4, r("a", "b")), at(6, of(1, w("a", "b"))))
	mustRelease(t, x, api.ErrArg, math.MinInt, -1, 1, 2, 3, 4, 5, 7, math.MaxInt)
	mustHold(t, x, 0, 2, 4, 6)
	mustBeReady(t, x, 0, 6)
	mustRelease(t, x, api.OK, 6)
	mustRelease(t, x, api.ErrArg, 6, 2, 4)
	mustHold(t, x, 0, 2, 4)
	mustRelease(t, x, api.OK, 0)
	mustRelease(t, x, api.ErrArg, 0, 4)
	mustBeShut(t, x, 0)
	mustRelease(t, x, api.OK, 2)
	mustRelease(t, x, api.OK, 4)
	mustHold(t, x)
	for pos := range 8 {
		mustBeShut(t, x, pos)
	}
	mustAsk(t, x, api.OK, 7, w("a", "b"))
	mustBeReady(t, x, 7)
	mustRelease(t, x, api.OK, 7)
}

// Places that keep nobody waiting go in any order.
func TestK5ReleaseInAnyOrder(t *testing.T) {
	orders := [][]int{{0, 1, 2, 3}, {3, 2, 1, 0}, {1, 3, 0, 2}, {2, 0, 3, 1}}
	for _, order := range orders {
		x := held(t, at(0, w("a", "b")), at(1, w("b", "c")), at(2, r("c", "")), at(3, r("c", "d"), of(2, w("", ""))))
		left := []int{0, 1, 2, 3}
		for _, pos := range order {
			mustHold(t, x, left...)
			mustBeReady(t, x, left...)
			mustRelease(t, x, api.OK, pos)
			left = slices.DeleteFunc(left, func(p int) bool { return p == pos })
		}
		mustHold(t, x)
	}
}
