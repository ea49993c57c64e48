package locks_test

import (
	"fmt"
	"math"
	"slices"
	"strings"
	"testing"
	"unsafe"

	"unison/api"
	"unison/locks"
)

// dice are numbers that look thrown, and are always the same.
type dice uint64

func (d *dice) below(n int) int {
	*d = *d*6364136223846793005 + 1442695040888963407
	return int(*d>>33) % n
}

// oneIn so many times it is true.
func (d *dice) oneIn(n int) bool { return d.below(n) == 0 }

func pick[T any](d *dice, l ...T) T { return l[d.below(len(l))] }

// texts are those of which thrown ranges are made: in any that is not empty, one of them lies.
func texts() []string { return []string{"", "\x00", "a", "a\x00", "ab", "b", "\x80", "\xff"} }

// lock is a right one of few tables, whose range is mostly narrow.
func (d *dice) lock() api.Lock {
	l := api.Lock{Table: pick(d, 0, 0, 0, 1, 7), Write: d.oneIn(2)}
	from := d.below(len(texts()))
	l.Lo = texts()[from]
	if behind := texts()[from+1:]; len(behind) > 0 && !d.oneIn(6) {
		l.Hi = behind[d.below(min(len(behind), 2))]
	}
	return l
}

func (d *dice) locks() []api.Lock {
	var l []api.Lock
	for range d.below(4) {
		l = append(l, d.lock())
	}
	return l
}

// wrong are locks one of which is not right.
func (d *dice) wrong() []api.Lock {
	bad := d.lock()
	switch d.below(4) {
	case 0:
		bad.Table = pick(d, -1, 8, math.MinInt, math.MaxInt)
	case 1:
		bad.Lo, bad.Hi = "b", "a"
	case 2:
		bad.Lo, bad.Hi = "b", "b"
	default:
		bad.Lo, bad.Hi = "ab", "a\x00"
	}
	l := d.locks()
	return slices.Insert(l, d.below(len(l)+1), bad)
}

// plain tells what a table is to tell, by the chapter's words alone.
type plain struct {
	open []ask
	last int
}

func met(a, b api.Lock) bool {
	return a.Table == b.Table && (a.Write || b.Write) && slices.ContainsFunc(texts(), func(s string) bool { return within(a, s) && within(b, s) })
}

func meeting(a, b ask) bool {
	for _, x := range a.locks {
		for _, y := range b.locks {
			if met(x, y) {
				return true
			}
		}
	}
	return false
}

func (p *plain) find(pos int) int {
	return slices.IndexFunc(p.open, func(a ask) bool { return a.pos == pos })
}

func (p *plain) waits(a ask) []int {
	var l []int
	for _, b := range p.open {
		if b.pos < a.pos && meeting(a, b) {
			l = append(l, b.pos)
		}
	}
	return l
}

func (p *plain) held() []int {
	var l []int
	for _, a := range p.open {
		l = append(l, a.pos)
	}
	return l
}

func (p *plain) ready() []int {
	var l []int
	for _, a := range p.open {
		if len(p.waits(a)) == 0 {
			l = append(l, a.pos)
		}
	}
	return l
}

func (p *plain) ask(pos int, l []api.Lock) api.Errno {
	if pos < 0 || pos <= p.last {
		return api.ErrArg
	}
	for _, x := range l {
		if x.Table < 0 || x.Table > 7 || x.Hi != "" && x.Hi <= x.Lo {
			return api.ErrLock
		}
	}
	p.last = pos
	p.open = append(p.open, at(pos, l...))
	return api.OK
}

func (p *plain) release(pos int) api.Errno {
	i := p.find(pos)
	if i < 0 || len(p.waits(p.open[i])) > 0 {
		return api.ErrArg
	}
	p.open = slices.Delete(p.open, i, i+1)
	return api.OK
}

// two are a table and a plain one, of which the same was asked.
type two struct {
	dice
	x *locks.Table
	p plain
}

func newTwo(t testing.TB, seed int) *two {
	t.Helper()
	w := &two{dice: dice(seed), x: held(t), p: plain{last: -1}}
	w.below(2)
	return w
}

// pos is a place that may be open.
func (w *two) pos() int {
	if w.oneIn(9) {
		return pick(&w.dice, math.MinInt, -1, 0, w.p.last+1, math.MaxInt)
	}
	return w.below(w.p.last + 2)
}

// ask asks for the next place, or for one behind that.
func (w *two) ask(t testing.TB) {
	t.Helper()
	w.same(t, w.p.last+1+w.below(2)*w.below(3), w.locks())
}

// same holds an ask of both against one another.
func (w *two) same(t testing.TB, pos int, l []api.Lock) {
	t.Helper()
	want := w.p.ask(pos, slices.Clone(l))
	mustAsk(t, w.x, want, pos, l...)
}

// turn does one thing to both.
func (w *two) turn(t testing.TB) {
	t.Helper()
	switch w.below(8) {
	case 0, 1:
		w.ask(t)
	case 2:
		w.same(t, w.p.last+1+w.below(3), w.wrong())
	case 3:
		w.same(t, min(w.pos(), w.p.last), pick(&w.dice, w.locks(), w.wrong()))
	default:
		pos := w.pos()
		mustRelease(t, w.x, w.p.release(pos), pos)
	}
}

// alike holds all that can be asked of a table against what the plain one tells.
func (w *two) alike(t testing.TB) {
	t.Helper()
	mustHold(t, w.x, w.p.held()...)
	ready := w.p.ready()
	if l := w.x.Ready(); !slices.Equal(l, ready) {
		t.Errorf("Ready = %v; want %v", l, ready)
	}
	for pos := -1; pos < w.p.last+2; pos++ {
		if ok := w.x.Granted(pos); ok != slices.Contains(ready, pos) {
			t.Errorf("Granted(%d) = %t; Ready is %v", pos, ok, ready)
		}
		if i := w.p.find(pos); i >= 0 {
			mustWait(t, w.x, pos, w.p.waits(w.p.open[i])...)
			mustHave(t, w.x, pos, w.p.open[i].locks...)
			continue
		}
		mustBeShut(t, w.x, pos)
	}
}

// What a table tells is what the chapter's words tell, whatever was asked for and freed.
func TestK2ToK5AsTheWordsSay(t *testing.T) {
	for seed := range 400 {
		w := newTwo(t, seed)
		for range 60 {
			w.turn(t)
			w.alike(t)
			if t.Failed() {
				t.Fatalf("seed %d: %v", seed, w.p.open)
			}
		}
	}
}

// image is all that a table tells of the places below one.
func image(x *locks.Table, below int) string {
	out := fmt.Sprint(x.Held(), x.Ready())
	for pos := -1; pos < below; pos++ {
		waits, e := x.Waits(pos)
		l, f := x.Locks(pos)
		out += fmt.Sprintf("; %d: %t, %v %d, %s %d", pos, x.Granted(pos), waits, e, shown(l...), f)
	}
	return out
}

// mustKeep holds what follows against a table's open places: the least one is granted; no two that are granted meet; what was granted, and is open, is granted yet.
func mustKeep(t testing.TB, x *locks.Table, was []int) {
	t.Helper()
	open, ready := x.Held(), x.Ready()
	if !slices.IsSorted(open) || !slices.IsSorted(ready) || len(open) > 0 && (len(ready) == 0 || ready[0] != open[0]) {
		t.Errorf("open %v, ready %v", open, ready)
	}
	for i, pos := range ready {
		a, _ := x.Locks(pos)
		for _, other := range ready[:i] {
			b, _ := x.Locks(other)
			if meeting(at(pos, a...), at(other, b...)) {
				t.Errorf("%d and %d are granted: %s; %s", other, pos, shown(b...), shown(a...))
			}
		}
	}
	for _, pos := range was {
		if slices.Contains(open, pos) && !slices.Contains(ready, pos) {
			t.Errorf("%d was granted; now %v are", pos, ready)
		}
	}
}

// Whichever ready place is freed, the next one can be, till none is open; places that meet go in their order.
func TestK6AnEnd(t *testing.T) {
	for seed := range 300 {
		w := newTwo(t, seed)
		var asked, freed []ask
		for len(asked) < 25 || len(w.p.open) > 0 {
			was := w.x.Ready()
			if len(asked) < 25 && w.oneIn(2) {
				w.ask(t)
				asked = append(asked, w.p.open[len(w.p.open)-1])
			} else if len(was) > 0 {
				pos := pick(&w.dice, was...)
				freed = append(freed, w.p.open[w.p.find(pos)])
				mustRelease(t, w.x, w.p.release(pos), pos)
			} else if len(w.p.open) > 0 {
				t.Fatalf("seed %d: a stop at %v", seed, w.x.Held())
			}
			mustKeep(t, w.x, was)
		}
		mustHold(t, w.x)
		for i, a := range freed {
			for _, b := range freed[:i] {
				if b.pos > a.pos && meeting(a, b) {
					t.Errorf("seed %d: %d was freed ahead of %d", seed, b.pos, a.pos)
				}
			}
		}
		if len(freed) != len(asked) || t.Failed() {
			t.Fatalf("seed %d: %d asked, %d freed", seed, len(asked), len(freed))
		}
	}
}

// ways frees the open places in each order in which the table lets them go, and tells how many orders there are.
func ways(t *testing.T, l []ask, gone []int) int {
	t.Helper()
	x := held(t, l...)
	for _, pos := range gone {
		mustRelease(t, x, api.OK, pos)
	}
	mustKeep(t, x, nil)
	if len(gone) == len(l) {
		mustHold(t, x)
		return 1
	}
	n := 0
	for _, pos := range x.Ready() {
		n += ways(t, l, append(slices.Clone(gone), pos))
	}
	return n
}

// orders are how many orders of places there are in which each one stands behind those below it that meet it.
func orders(l, gone []ask) int {
	if len(gone) == len(l) {
		return 1
	}
	n := 0
	for i, a := range l {
		is := func(b ask) bool { return slices.ContainsFunc(gone, func(c ask) bool { return c.pos == b.pos }) }
		if !is(a) && !slices.ContainsFunc(l[:i], func(b ask) bool { return meeting(a, b) && !is(b) }) {
			n += orders(l, append(slices.Clone(gone), a))
		}
	}
	return n
}

// All orders of frees of few places with few kinds of locks, none of which comes to a stop: and there are no fewer and no more than meeting places ask for.
func TestK6AllOrders(t *testing.T) {
	kinds := [][]api.Lock{nil, {r("a", "b")}, {w("a", "ab")}, {w("ab", "b"), of(1, r("", ""))}, {of(1, w("b", ""))}}
	for n := range 5 * 5 * 5 * 5 {
		var l []ask
		for i := range 4 {
			l = append(l, at(3*i, kinds[n%5]...))
			n /= 5
		}
		if got, want := ways(t, l, nil), orders(l, nil); got != want || t.Failed() {
			t.Fatalf("%v: %d orders; want %d", l, got, want)
		}
	}
}

// Places that were freed leave nothing behind that is of weight.
func TestK6LongRuns(t *testing.T) {
	x := held(t)
	for i := range 20000 {
		mustAsk(t, x, api.OK, i, w("a", "b"), of(i%8, r("", "")))
		if i < 3 {
			continue
		}
		mustRelease(t, x, api.ErrArg, i-2)
		mustRelease(t, x, api.OK, i-3)
		if t.Failed() {
			t.Fatal(i)
		}
	}
	mustHold(t, x, 19997, 19998, 19999)
	mustWait(t, x, 19999, 19997, 19998)
}

// Every call ends, and none panics, at odd arguments.
func TestR1OddArguments(t *testing.T) {
	long := strings.Repeat("x", 1<<16)
	numbers := []int{math.MinInt, math.MinInt + 1, -1, 0, 1, 7, 8, math.MaxInt - 1, math.MaxInt}
	ends := []string{"", "\x00", "\xff", "\xc3\x28", long, long + "\x00"}
	var l []api.Lock
	for _, table := range numbers {
		for _, lo := range ends {
			for _, hi := range ends {
				l = append(l, api.Lock{Table: table, Lo: lo, Hi: hi, Write: true}, api.Lock{Table: table, Lo: lo, Hi: hi})
			}
		}
	}
	for _, a := range l {
		locks.Right(a)
		for _, b := range l[:100] {
			locks.Conflict(a, b)
			locks.Conflict(b, a)
		}
	}
	for _, x := range []*locks.Table{held(t), held(t, at(0, w("", ""))), held(t, at(math.MaxInt-1, w("", "")), at(math.MaxInt, r("", "")))} {
		for _, pos := range numbers {
			x.Release(pos)
			x.Waits(pos)
			x.Locks(pos)
			x.Granted(pos)
			x.Ask(pos, l...)
			x.Ask(pos, w(long, long+"\x00"))
			x.Held()
			x.Ready()
		}
	}
}

// Of several errors the one that is named first is told.
func TestR2TheFirstError(t *testing.T) {
	for seed := range 300 {
		w := newTwo(t, seed)
		w.ask(t)
		w.ask(t)
		mustAsk(t, w.x, api.ErrArg, w.below(w.p.last+1), w.wrong()...)
		mustAsk(t, w.x, api.ErrArg, -1-w.below(9), w.wrong()...)
		mustAsk(t, w.x, api.ErrLock, w.p.last+1, w.wrong()...)
	}
}

// What is refused has changed nothing.
func TestR3RefusedChangesNothing(t *testing.T) {
	for seed := range 300 {
		w := newTwo(t, seed)
		for range 30 {
			w.turn(t)
		}
		was := image(w.x, w.p.last+5)
		for range 30 {
			w.x.Ask(w.p.last+1+w.below(4), w.wrong()...)
			w.x.Ask(w.p.last-w.below(4), w.locks()...)
			if pos := w.pos(); !w.x.Granted(pos) {
				mustRelease(t, w.x, api.ErrArg, pos)
			}
		}
		if now := image(w.x, w.p.last+5); now != was {
			t.Fatalf("seed %d: %s; was %s", seed, now, was)
		}
		w.same(t, w.p.last+1, w.locks())
		w.alike(t)
	}
}

func TestR4NoLocks(t *testing.T) {
	x := held(t)
	mustAsk(t, x, api.OK, 0, []api.Lock(nil)...)
	mustAsk(t, x, api.OK, 1, []api.Lock{}...)
	mustAsk(t, x, api.OK, 2)
	mustBeReady(t, x, 0, 1, 2)
	for pos := range 3 {
		mustHave(t, x, pos)
		mustWait(t, x, pos)
	}
}

// What is handed in stays as it is, its spare room too; and what becomes of it later is of no weight.
func TestR5Arguments(t *testing.T) {
	room := []api.Lock{w("a", "b"), r("b", ""), of(3, w("x", "y")), r("q", ""), r("r", "")}
	was := slices.Clone(room)
	x := held(t)
	mustAsk(t, x, api.OK, 0, room[:3]...)
	mustAsk(t, x, api.OK, 1, room[1:2]...)
	mustAsk(t, x, api.ErrArg, 1, room[:3]...)
	mustAsk(t, x, api.ErrLock, 2, room[0], w("b", "a"))
	mustRelease(t, x, api.OK, 1)
	if !slices.Equal(room, was) {
		t.Errorf("%s; was %s", shown(room...), shown(was...))
	}
	for i := range room {
		room[i] = of(5, w("", ""))
	}
	mustHave(t, x, 0, was[:3]...)
	mustAsk(t, x, api.OK, 2, room...)
	mustBeReady(t, x, 0, 2)
}

// What is done to an answer, its spare room too, is of no weight later.
func TestR5AnswersAreNew(t *testing.T) {
	for seed := range 200 {
		w := newTwo(t, seed)
		for range 10 {
			w.ask(t)
		}
		was := image(w.x, w.p.last+1)
		waits, _ := w.x.Waits(w.p.last)
		for _, l := range [][]int{w.x.Held(), w.x.Ready(), waits} {
			for i := range l[:cap(l)] {
				l[:cap(l)][i] = 1
			}
		}
		for _, pos := range w.x.Held() {
			l, _ := w.x.Locks(pos)
			again, _ := w.x.Locks(pos)
			want := slices.Clone(l)
			for i := range l[:cap(l)] {
				l[:cap(l)][i] = of(6, r("?", ""))
			}
			if !slices.Equal(again, want) {
				t.Errorf("seed %d: %s; was %s", seed, shown(again...), shown(want...))
			}
		}
		if now := image(w.x, w.p.last+1); now != was {
			t.Fatalf("seed %d: %s; was %s", seed, now, was)
		}
		w.alike(t)
	}
}

// overlap tells whether two texts lie in the same memory.
func overlap(a, b string) bool {
	from, at := uintptr(unsafe.Pointer(unsafe.StringData(a))), uintptr(unsafe.Pointer(unsafe.StringData(b)))
	return a != "" && b != "" && from < at+uintptr(len(b)) && at < from+uintptr(len(a))
}

// No text of an answer lies in the memory of one that was handed in, nor of one of another answer.
func TestR5TextsAreNew(t *testing.T) {
	long := strings.Repeat("abcdefgh", 1000)
	x := held(t, at(0, w(long[:3], long[1:9]), r(long[8:], "")), at(1, r(long[2:5], "")))
	for pos := range 2 {
		l, _ := x.Locks(pos)
		again, _ := x.Locks(pos)
		for i := range l {
			for _, s := range []string{l[i].Lo, l[i].Hi} {
				if overlap(s, long) || overlap(s, again[i].Lo) || overlap(s, again[i].Hi) {
					t.Errorf("%d: %.20q", pos, s)
				}
			}
		}
	}
}

// What a table answers hangs on what was asked for and freed there alone: not on questions, nor on other tables.
func TestR6TheSameAgain(t *testing.T) {
	for seed := range 200 {
		w, quiet, other := newTwo(t, seed), newTwo(t, seed), newTwo(t, seed+1000)
		for range 40 {
			w.turn(t)
			image(w.x, w.p.last+2)
			quiet.turn(t)
			other.turn(t)
		}
		if now, want := image(w.x, w.p.last+2), image(quiet.x, w.p.last+2); now != want {
			t.Fatalf("seed %d: %s; want %s", seed, now, want)
		}
		w.alike(t)
		other.alike(t)
	}
}
