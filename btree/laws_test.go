package btree_test

import (
	"math"
	"slices"
	"strings"
	"testing"
	"unsafe"

	"unison/api"
	"unison/btree"
)

// plain is a sorted list of pairs, which tells what a tree is to tell.
type plain struct{ l []api.Pair }

// at is the place of the first key from one on, and whether it is that one.
func (p *plain) at(key string) (int, bool) {
	i := 0
	for i < len(p.l) && p.l[i].Key < key {
		i++
	}
	return i, i < len(p.l) && p.l[i].Key == key
}

func (p *plain) get(key string) (string, bool) {
	if i, is := p.at(key); is {
		return p.l[i].Val, true
	}
	return "", false
}

func (p *plain) put(key, val string) (string, bool) {
	i, is := p.at(key)
	if !is {
		p.l = slices.Insert(p.l, i, pair(key, val))
		return "", false
	}
	old := p.l[i].Val
	p.l[i].Val = val
	return old, true
}

func (p *plain) delete(key string) (string, bool) {
	i, is := p.at(key)
	if !is {
		return "", false
	}
	old := p.l[i].Val
	p.l = slices.Delete(p.l, i, i+1)
	return old, true
}

func (p *plain) list(from, to string, most int) []api.Pair {
	var l []api.Pair
	for _, x := range p.l {
		if x.Key >= from && (to == "" || x.Key < to) && len(l) < most {
			l = append(l, x)
		}
	}
	return l
}

// two are a tree and a plain list with the same pairs, and a cursor: where it was set, and, if it told any, the last one.
type two struct {
	x      *btree.Tree
	p      *plain
	order  int
	c      *btree.Cursor
	from   string
	last   string
	told   bool
	number int
}

func newTwo(t testing.TB, order int, keys ...string) *two {
	t.Helper()
	l := pairs(keys...)
	x := mustNew(t, order, l...)
	return &two{x: x, p: &plain{l: l}, order: order, c: x.Seek("")}
}

// put puts a text that was never put before.
func (w *two) put(t testing.TB, key string) {
	t.Helper()
	w.number++
	val := strings.Repeat("v", w.number%3) + name(w.number)
	got, had := w.x.Put(key, val)
	if want, is := w.p.put(key, val); got != want || had != is {
		t.Fatalf("Put(%q) = %q, %t; want %q, %t", key, got, had, want, is)
	}
	w.same(t)
}

func (w *two) delete(t testing.TB, key string) {
	t.Helper()
	got, had := w.x.Delete(key)
	if want, is := w.p.delete(key); got != want || had != is {
		t.Fatalf("Delete(%q) = %q, %t; want %q, %t", key, got, had, want, is)
	}
	w.same(t)
}

// turn puts a key that is not there, and deletes one that is.
func (w *two) turn(t testing.TB, key string) {
	t.Helper()
	if _, is := w.p.at(key); is {
		w.delete(t, key)
	} else {
		w.put(t, key)
	}
}

func (w *two) seek(key string) {
	w.c, w.from, w.last, w.told = w.x.Seek(key), key, "", false
}

// next holds what the cursor tells against the least key from on that is greater than the last one.
func (w *two) next(t testing.TB) {
	t.Helper()
	for _, p := range w.p.l {
		if p.Key >= w.from && (!w.told || p.Key > w.last) {
			mustTell(t, w.c, p)
			w.last, w.told = p.Key, true
			return
		}
	}
	mustEnd(t, w.c)
}

// same holds all of the tree against the list.
func (w *two) same(t testing.TB) {
	t.Helper()
	mustHave(t, w.x, w.order, w.p.l...)
	if t.Failed() {
		t.Fatalf("order %d: Levels %v, of %.300q", w.order, w.x.Levels(), w.p.l)
	}
}

// All runs of six turns of six keys.
func TestB7AllShortRuns(t *testing.T) {
	keys := names(6)
	const count = 6
	runs := 1
	for range count {
		runs *= len(keys)
	}
	for i := range runs {
		w := newTwo(t, 4)
		for range count {
			w.turn(t, keys[i%len(keys)])
			i /= len(keys)
		}
		w.next(t)
	}
}

// permutations goes through all orders of some keys.
func permutations(keys []string, done func([]string)) {
	var place func(i int)
	place = func(i int) {
		if i == len(keys) {
			done(keys)
			return
		}
		for j := i; j < len(keys); j++ {
			keys[i], keys[j] = keys[j], keys[i]
			place(i + 1)
			keys[i], keys[j] = keys[j], keys[i]
		}
	}
	place(0)
}

// Seven keys in all orders, put so and deleted so, or from the end.
func TestB7AllOrders(t *testing.T) {
	permutations(names(7), func(keys []string) {
		w := newTwo(t, 4)
		for _, k := range keys {
			w.put(t, k)
		}
		for i := range keys {
			w.delete(t, keys[(i*3+2)%len(keys)])
		}
	})
}

// In trees of three levels, made from either end: each key and gap is turned, and then each again, so that nodes of every width lie beside one another.
func TestB7TwoTurnsAtEachPlace(t *testing.T) {
	for _, order := range []int{4, 5} {
		const count = 22
		for _, down := range []bool{false, true} {
			keys := names(count)
			for first := range 2*count + 3 {
				for second := range 2*count + 3 {
					w := newTwo(t, order)
					for i := range keys {
						if down {
							i = count - 1 - i
						}
						w.x.Put(keys[i], "")
						w.p.put(keys[i], "")
					}
					w.turn(t, name(first))
					w.turn(t, name(second))
				}
			}
		}
	}
}

// From a full tree of three levels keys are deleted in runs, which begin at each place, till none is left; then they are put again.
func TestB7RunsFromEachPlace(t *testing.T) {
	for _, order := range []int{4, 5, 6, 7} {
		count := 2*order*order + 1
		keys := names(count)
		for start := 0; start < count; start += 3 {
			w := newTwo(t, order, keys...)
			for i := range keys {
				w.delete(t, keys[(start+i)%count])
			}
			for i := range keys {
				w.put(t, keys[(start+2*i)%count])
			}
		}
	}
}

// play does what a byte and a key say.
func (w *two) play(t testing.TB, what byte, key, other string) {
	t.Helper()
	switch what % 8 {
	case 0, 1:
		w.put(t, key)
	case 2, 3:
		w.delete(t, key)
	case 4:
		got, had := w.x.Get(key)
		if want, is := w.p.get(key); got != want || had != is {
			t.Fatalf("Get(%q) = %q, %t; want %q, %t", key, got, had, want, is)
		}
	case 5:
		most := int(what>>3) - 4
		mustList(t, w.x, key, other, most, w.p.list(key, other, most)...)
	case 6:
		w.seek(key)
	case 7:
		w.next(t)
	}
	if t.Failed() {
		t.Fatalf("order %d: Levels %v, of %.300q", w.order, w.x.Levels(), w.p.l)
	}
}

// Long runs of all calls, each the same every time, by turns with more puts and with more deletes.
func TestB7LongRuns(t *testing.T) {
	for order := 4; order <= 64; order += 3 {
		w := newTwo(t, order)
		state := uint64(order)
		draw := func(n int) int {
			state = state*6364136223846793005 + 1442695040888963407
			return int(state>>33) % n
		}
		for i := range 3000 {
			what := byte(draw(256))
			if more := i / 500 % 2; what%8 < 4 && draw(3) > 0 {
				what = byte(2 * more)
			}
			w.play(t, what, name(draw(400)), name(draw(400)))
		}
	}
}

// A run as long as the fuzzer likes: three bytes are a call and the two keys that it is given.
func FuzzB7(f *testing.F) {
	f.Add(4, []byte("\x00a\x00\x00b\x00\x00c\x00\x00d\x00\x00e\x00\x02a\x00\x02b\x00\x06a\x00\x07\x00\x00"))
	f.Add(5, []byte("\x00\x00\x00\x00\x01\x00\x00\x02\x00\xfd\x00\x00\x04\x01\x00\x02\x00\x00"))
	f.Fuzz(func(t *testing.T, order int, run []byte) {
		w := newTwo(t, 4+int(uint(order)%61))
		for ; len(run) >= 3; run = run[3:] {
			// Keys of one byte and of two, and the empty one.
			key, other := strings.TrimLeft(string(run[1:2]), "\x00"), strings.TrimLeft(string(run[2:3]), "\x00")
			w.play(t, run[0], key+strings.Repeat("\x00", int(run[2]%3)), other)
		}
	})
}

// within tells whether a text's bytes lie in another one's memory.
func within(s, long string) bool {
	at, from := uintptr(unsafe.Pointer(unsafe.StringData(s))), uintptr(unsafe.Pointer(unsafe.StringData(long)))
	return from <= at && at < from+uintptr(len(long))
}

// mustBeNew holds it that two answers lie neither in what was handed in nor in one another.
func mustBeNew(t *testing.T, given, one, other string) {
	t.Helper()
	if one == "" || one != other || within(one, given) || within(other, given) || within(one, other) {
		t.Errorf("%q and %q are not new memory", one, other)
	}
}

// A text that is a piece of a longer one must not keep all of it; what is answered is new each time.
func TestR5TextsAreCopied(t *testing.T) {
	long := strings.Repeat("abcdefgh", 50)
	x := mustNew(t, 4, pair(long[0:9], long[9:20]))
	mustPut(t, x, long[1:7], long[20:33])
	for i, p := range []api.Pair{pair(long[0:9], long[9:20]), pair(long[1:7], long[20:33])} {
		one, _ := x.Get(p.Key)
		other, _ := x.Get(p.Key)
		mustBeNew(t, long, one, other)
		l, again := x.List("", "", 9), x.List("", "", 9)
		mustBeNew(t, long, l[i].Key, again[i].Key)
		mustBeNew(t, long, l[i].Val, again[i].Val)
		key, val, _ := x.Seek(p.Key).Next()
		mustBeNew(t, long, key, l[i].Key)
		mustBeNew(t, long, val, l[i].Val)
	}
	old, _ := x.Put(long[0:9], long[40:50])
	if within(old, long) {
		t.Errorf("Put tells %q out of what was handed in", old)
	}
	if old, _ = x.Delete(long[1:7]); within(old, long) {
		t.Errorf("Delete tells %q out of what was handed in", old)
	}
	if val, _ := x.Get(long[0:9]); within(val, long) || val != long[40:50] {
		t.Errorf("Get tells %q out of what was handed in", val)
	}
}

// A text whose bytes change behind a call tells whether it was kept.
func TestR5TextsAreNotKept(t *testing.T) {
	room := []byte("key1val1key2val2from")
	text := func(at int) string { return unsafe.String(&room[at], 4) }
	x := mustNew(t, 4, pair(text(0), text(4)))
	mustPut(t, x, text(8), text(12))
	c := x.Seek(text(16))
	clear(room)
	mustHave(t, x, 4, pair("key1", "val1"), pair("key2", "val2"))
	mustTell(t, c, pair("key1", "val1"))
	copy(room, "zzzz")
	c = x.Seek(text(0))
	clear(room)
	mustEnd(t, c)
	copy(room, "key1val3")
	mustReplace(t, x, text(0), text(4), "val1")
	clear(room)
	mustHave(t, x, 4, pair("key1", "val3"), pair("key2", "val2"))
}

// What is handed in stays as it is, its spare room too; nor does a tree see it when it changes later.
func TestR5WhatIsHandedIn(t *testing.T) {
	room := pairs(names(60)...)
	was := slices.Clone(room)
	x := mustNew(t, 4, room[:40]...)
	for _, k := range names(60) {
		x.Put(k, "new")
		x.Delete(k)
		x.Put(k, "again")
	}
	if !slices.Equal(room, was) {
		t.Errorf("what was handed in is %.200q", room)
	}
	x = mustNew(t, 64, room[:40]...)
	clear(room)
	mustHave(t, x, 64, was[:40]...)
}

// What was answered may be changed, and the tree does not see it; nor do two lists of an answer touch.
func TestR5WhatIsAnswered(t *testing.T) {
	l := pairs(names(40)...)
	x := mustNew(t, 4, l...)
	got := x.List("", "", math.MaxInt)
	clear(got)
	levels := x.Levels()
	for i := range levels {
		want := slices.Clone(levels[i])
		for j := range levels {
			if j != i {
				clear(levels[j])
				levels[j] = append(levels[j], 7)
			}
		}
		if !slices.Equal(levels[i], want) {
			t.Errorf("level %d touches another one: %v", i, levels[i])
		}
		levels = x.Levels()
	}
	clear(levels)
	mustHave(t, x, 4, l...)
}

// Two trees have nothing in common, though they were made of the same pairs.
func TestR6TreesAreApart(t *testing.T) {
	l := pairs(names(40)...)
	x, other := mustNew(t, 4, l...), mustNew(t, 4, l...)
	c := other.Seek("")
	for _, p := range l {
		mustDelete(t, x, p.Key, p.Val)
		mustTell(t, c, p)
	}
	mustHave(t, x, 4)
	mustHave(t, other, 4, l...)
	if !sameLevels(other.Levels(), mustNew(t, 4, l...).Levels()) {
		t.Errorf("the same calls make another shape")
	}
}
