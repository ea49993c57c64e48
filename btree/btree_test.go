package btree_test

import (
	"math"
	"slices"
	"strconv"
	"testing"

	"unison/api"
	"unison/btree"
)

// pair is a key and what stands under it.
func pair(key, val string) api.Pair { return api.Pair{Key: key, Val: val} }

// pairs are some keys, each with a text of its own under it.
func pairs(keys ...string) []api.Pair {
	var l []api.Pair
	for _, k := range keys {
		l = append(l, pair(k, k+"!"))
	}
	return l
}

// name is the key of a number; they rise as the numbers do.
func name(i int) string { return strconv.Itoa(100000 + i) }

// names are so many keys, of even numbers: there is room ahead of, between and behind them.
func names(count int) []string {
	var l []string
	for i := range count {
		l = append(l, name(2*i+2))
	}
	return l
}

// oddKeys rise byte by byte, in ways that another order would turn about.
func oddKeys() []string {
	return []string{"", "\x00", "\x00\x00", "\x00\x01", "\x01", "0", "10", "9", "A", "a", "a\x00", "a\x00\x00", "a\x00b", "aa", "ab", "b", "z", "\x7f", "\x80", "\xc3\xa9", "\xe2\x82\xac", "\xff", "\xff\x00", "\xff\xfe", "\xff\xff", "\xff\xff\xff"}
}

func mustNew(t testing.TB, order int, l ...api.Pair) *btree.Tree {
	t.Helper()
	x, e := btree.New(order, l...)
	if x == nil || e != api.OK {
		t.Fatalf("New(%d, %.80q): a tree %t, %d", order, l, x != nil, e)
	}
	return x
}

// mustRefuse holds it that no tree is made.
func mustRefuse(t *testing.T, want api.Errno, order int, l ...api.Pair) {
	t.Helper()
	if x, e := btree.New(order, l...); x != nil || e != want {
		t.Errorf("New(%d, %.80q): a tree %t, %d; want %d", order, l, x != nil, e, want)
	}
}

// mustGet holds what stands under a key against what is asked for.
func mustGet(t testing.TB, x *btree.Tree, key, want string) {
	t.Helper()
	if val, had := x.Get(key); val != want || !had {
		t.Errorf("Get(%q) = %q, %t; want %q", key, val, had, want)
	}
}

// mustLack holds it that a key is not there, and that to delete it changes nothing.
func mustLack(t testing.TB, x *btree.Tree, key string) {
	t.Helper()
	if val, had := x.Get(key); val != "" || had {
		t.Errorf("Get(%q) = %q, %t; want none", key, val, had)
	}
	count, levels := x.Len(), x.Levels()
	if old, had := x.Delete(key); old != "" || had {
		t.Errorf("Delete(%q) = %q, %t; want none", key, old, had)
	}
	if x.Len() != count || !sameLevels(x.Levels(), levels) {
		t.Errorf("Delete(%q) of what is not there: Len %d, Levels %v; it was %d, %v", key, x.Len(), x.Levels(), count, levels)
	}
}

func sameLevels(a, b [][]int) bool { return slices.EqualFunc(a, b, slices.Equal) }

// mustPut puts a key that was not there.
func mustPut(t testing.TB, x *btree.Tree, key, val string) {
	t.Helper()
	if old, had := x.Put(key, val); old != "" || had {
		t.Errorf("Put(%q) = %q, %t; want none", key, old, had)
	}
}

// mustReplace puts something under a key that was there.
func mustReplace(t testing.TB, x *btree.Tree, key, val, want string) {
	t.Helper()
	if old, had := x.Put(key, val); old != want || !had {
		t.Errorf("Put(%q) = %q, %t; want %q", key, old, had, want)
	}
}

// mustDelete deletes a key that was there.
func mustDelete(t testing.TB, x *btree.Tree, key, want string) {
	t.Helper()
	if old, had := x.Delete(key); old != want || !had {
		t.Errorf("Delete(%q) = %q, %t; want %q", key, old, had, want)
	}
}

// mustList holds a list against the one that is asked for.
func mustList(t testing.TB, x *btree.Tree, from, to string, most int, want ...api.Pair) {
	t.Helper()
	if got := x.List(from, to, most); !slices.Equal(got, want) {
		t.Errorf("List(%q, %q, %d) = %.200q; want %.200q", from, to, most, got, want)
	}
}

// mustHave holds all that can be asked of a tree that stays as it is against the pairs that it is to have.
func mustHave(t testing.TB, x *btree.Tree, order int, want ...api.Pair) {
	t.Helper()
	if x.Len() != len(want) {
		t.Errorf("Len %d; want %d", x.Len(), len(want))
	}
	mustList(t, x, "", "", math.MaxInt, want...)
	for _, p := range want {
		mustGet(t, x, p.Key, p.Val)
	}
	mustShape(t, x, order)
}

// sum is that of some numbers.
func sum(l []int) int {
	n := 0
	for _, x := range l {
		n += x
	}
	return n
}

// mustShape holds a tree's levels against the chapter's section 'Shape'.
func mustShape(t testing.TB, x *btree.Tree, order int) {
	t.Helper()
	l := x.Levels()
	if len(l) == 0 || len(l[0]) != 1 || l[0][0] > order || len(l) > 1 && l[0][0] < 2 {
		t.Fatalf("order %d: the root: %v", order, l)
	}
	for i, level := range l[1:] {
		if len(level) != sum(l[i]) {
			t.Fatalf("order %d: level %d has %d nodes, and the one ahead %d kids: %v", order, i+1, len(level), sum(l[i]), l)
		}
		if slices.Min(level) < order/2 || slices.Max(level) > order {
			t.Fatalf("order %d: level %d: %v", order, i+1, l)
		}
	}
	if sum(l[len(l)-1]) != x.Len() {
		t.Fatalf("order %d: the leaves have %d keys, of %d: %v", order, sum(l[len(l)-1]), x.Len(), l)
	}
}

// mustLevels holds a tree's levels against those that are asked for.
func mustLevels(t *testing.T, x *btree.Tree, want ...[]int) {
	t.Helper()
	if got := x.Levels(); !sameLevels(got, want) {
		t.Errorf("Levels %v; want %v", got, want)
	}
}

// mustTell holds what a cursor tells next against what is asked for.
func mustTell(t testing.TB, c *btree.Cursor, want api.Pair) {
	t.Helper()
	if key, val, ok := c.Next(); key != want.Key || val != want.Val || !ok {
		t.Errorf("Next = %q, %q, %t; want %q", key, val, ok, want)
	}
}

// mustEnd holds it that a cursor has none more.
func mustEnd(t testing.TB, c *btree.Cursor) {
	t.Helper()
	if key, val, ok := c.Next(); key != "" || val != "" || ok {
		t.Errorf("Next = %q, %q, %t; want none", key, val, ok)
	}
}

func TestB1Orders(t *testing.T) {
	for order := 4; order <= 64; order++ {
		mustHave(t, mustNew(t, order), order)
		for _, count := range []int{1, 2, 3, order - 1, order, order + 1, 2*order + 1, order*order + 1} {
			l := pairs(names(count)...)
			mustHave(t, mustNew(t, order, l...), order, l...)
		}
	}
}

func TestB1WrongOrders(t *testing.T) {
	for _, order := range []int{3, 2, 1, 0, -1, -4, -64, math.MinInt, 65, 66, 128, 1 << 32, 1<<32 + 4, math.MaxInt} {
		mustRefuse(t, api.ErrOrder, order)
		mustRefuse(t, api.ErrOrder, order, pairs("a", "b")...)
		// It is told ahead of what is wrong with the pairs.
		mustRefuse(t, api.ErrOrder, order, pairs("b", "a")...)
		mustRefuse(t, api.ErrOrder, order, pairs("a", "a")...)
	}
}

func TestB1Rising(t *testing.T) {
	keys := oddKeys()
	for _, order := range []int{4, 5, 64} {
		mustHave(t, mustNew(t, order, pairs(keys...)...), order, pairs(keys...)...)
		for i, a := range keys {
			for j, b := range keys {
				if i < j {
					mustHave(t, mustNew(t, order, pairs(a, b)...), order, pairs(a, b)...)
				} else {
					mustRefuse(t, api.ErrRising, order, pairs(a, b)...)
				}
			}
		}
	}
}

// What stands under keys is nothing by which pairs rise or are the same.
func TestB1RisingIsOfKeys(t *testing.T) {
	mustHave(t, mustNew(t, 4, pair("a", "2"), pair("b", "1"), pair("c", "1")), 4, pair("a", "2"), pair("b", "1"), pair("c", "1"))
	mustRefuse(t, api.ErrRising, 4, pair("a", "1"), pair("a", "2"))
	mustRefuse(t, api.ErrRising, 4, pair("b", "1"), pair("a", "2"))
}

// Two neighbours that are turned about, or a key that is there twice, at each place.
func TestB1NotRisingAtEachPlace(t *testing.T) {
	for _, count := range []int{2, 3, 9, 40} {
		for i := range count - 1 {
			keys := names(count)
			keys[i], keys[i+1] = keys[i+1], keys[i]
			mustRefuse(t, api.ErrRising, 4, pairs(keys...)...)
			keys = names(count)
			keys[i+1] = keys[i]
			mustRefuse(t, api.ErrRising, 64, pairs(keys...)...)
		}
	}
}

func TestB2LenAndGet(t *testing.T) {
	x := mustNew(t, 4)
	if x.Len() != 0 {
		t.Errorf("Len %d", x.Len())
	}
	mustLack(t, x, "")
	mustLack(t, x, "a")
	for i, k := range oddKeys() {
		mustLack(t, x, k)
		mustPut(t, x, k, "under "+k)
		mustGet(t, x, k, "under "+k)
		if x.Len() != i+1 {
			t.Errorf("Len %d; want %d", x.Len(), i+1)
		}
	}
	for _, k := range []string{"\x00\x00\x00", "\x02", "1", "100", "B", "a\x01", "a\x00\x00\x00", "aaa", "c", "\xfe", "\xff\xff\xff\x00", "under a"} {
		mustLack(t, x, k)
	}
}

// What stands under a key may be empty: it is there all the same.
func TestB2NothingUnderAKey(t *testing.T) {
	x := mustNew(t, 4, pair("", ""), pair("a", ""))
	mustGet(t, x, "", "")
	mustGet(t, x, "a", "")
	mustReplace(t, x, "a", "1", "")
	mustReplace(t, x, "a", "", "1")
	mustDelete(t, x, "", "")
	mustDelete(t, x, "a", "")
	mustHave(t, x, 4)
}

// Each key of a tree with several levels, and each key between two.
func TestB2EachGap(t *testing.T) {
	for _, order := range []int{4, 5, 7, 64} {
		for _, count := range []int{0, 1, 2, 5, 17, 200} {
			x := mustNew(t, order, pairs(names(count)...)...)
			for i := range 2*count + 4 {
				if i%2 == 0 && i > 0 && i <= 2*count {
					mustGet(t, x, name(i), name(i)+"!")
				} else {
					mustLack(t, x, name(i))
				}
			}
		}
	}
}

func TestB3PutAndDelete(t *testing.T) {
	x := mustNew(t, 4)
	mustPut(t, x, "b", "1")
	mustPut(t, x, "a", "2")
	mustReplace(t, x, "b", "3", "1")
	mustReplace(t, x, "b", "3", "3")
	mustHave(t, x, 4, pair("a", "2"), pair("b", "3"))
	mustDelete(t, x, "b", "3")
	mustLack(t, x, "b")
	mustHave(t, x, 4, pair("a", "2"))
	mustPut(t, x, "b", "4")
	mustHave(t, x, 4, pair("a", "2"), pair("b", "4"))
	mustDelete(t, x, "a", "2")
	mustDelete(t, x, "b", "4")
	mustLack(t, x, "a")
	mustHave(t, x, 4)
}

// To put something under a key that is there changes neither the number of keys nor the shape, wherever it stands.
func TestB3Replace(t *testing.T) {
	for _, order := range []int{4, 5, 8, 64} {
		l := pairs(names(150)...)
		x := mustNew(t, order, l...)
		levels := x.Levels()
		for i, p := range l {
			mustReplace(t, x, p.Key, "new", p.Val)
			l[i].Val = "new"
			mustHave(t, x, order, l...)
			if !sameLevels(x.Levels(), levels) {
				t.Fatalf("order %d: Levels %v; want %v", order, x.Levels(), levels)
			}
		}
	}
}

// Keys that begin one another, and that have bytes of every kind, are put from both ends.
func TestB3OddKeys(t *testing.T) {
	keys := oddKeys()
	for _, order := range []int{4, 5, 64} {
		up, down := mustNew(t, order), mustNew(t, order)
		for i := range keys {
			mustPut(t, up, keys[i], keys[i]+"!")
			mustHave(t, up, order, pairs(keys[:i+1]...)...)
			j := len(keys) - 1 - i
			mustPut(t, down, keys[j], keys[j]+"!")
			mustHave(t, down, order, pairs(keys[j:]...)...)
		}
		for i := range keys {
			mustDelete(t, up, keys[i], keys[i]+"!")
			mustHave(t, up, order, pairs(keys[i+1:]...)...)
			j := len(keys) - 1 - i
			mustDelete(t, down, keys[j], keys[j]+"!")
			mustHave(t, down, order, pairs(keys[:j]...)...)
		}
	}
}

func TestB4List(t *testing.T) {
	a, b, c := pair("a", "1"), pair("b", "2"), pair("c", "3")
	x := mustNew(t, 4, a, b, c)
	mustList(t, x, "", "", 9, a, b, c)
	mustList(t, x, "", "", 3, a, b, c)
	mustList(t, x, "", "", 2, a, b)
	mustList(t, x, "", "", 1, a)
	mustList(t, x, "b", "", 1, b)
	mustList(t, x, "a", "c", 9, a, b)
	mustList(t, x, "a", "c\x00", 9, a, b, c)
	mustList(t, x, "a\x00", "c", 9, b)
	mustList(t, x, "a", "a", 9)
	mustList(t, x, "a", "a\x00", 9, a)
	mustList(t, x, "b", "a", 9)
	mustList(t, x, "d", "", 9)
	mustList(t, x, "", "a", 9)
	mustList(t, x, "", "\x00", 9)
	mustList(t, x, "", "zz", math.MaxInt, a, b, c)
	for _, most := range []int{0, -1, -9, math.MinInt} {
		mustList(t, x, "", "", most)
		mustList(t, x, "a", "c", most)
	}
	mustList(t, mustNew(t, 4), "", "", 9)
	mustList(t, mustNew(t, 4), "a", "b", 9)
}

// The empty key is one too; the empty end is none.
func TestB4TheEmptyKey(t *testing.T) {
	x := mustNew(t, 4, pair("", "0"), pair("\x00", "1"))
	mustList(t, x, "", "", 9, pair("", "0"), pair("\x00", "1"))
	mustList(t, x, "", "\x00", 9, pair("", "0"))
	mustList(t, x, "\x00", "", 9, pair("\x00", "1"))
	mustList(t, x, "\x00\x00", "", 9)
}

// All stretches of trees with several levels, from each key and gap to each.
func TestB4AllStretches(t *testing.T) {
	for _, order := range []int{4, 5, 6} {
		const count = 40
		l := pairs(names(count)...)
		x := mustNew(t, order, l...)
		for from := range 2*count + 4 {
			for to := range 2*count + 4 {
				// Of the pairs' numbers, which begin at 2, these are the first from on and the first that is past the end.
				first, end := min(max(from-1, 0)/2, count), min(max(to-1, 0)/2, count)
				want := l[first:max(first, end)]
				mustList(t, x, name(from), name(to), math.MaxInt, want...)
				mustList(t, x, name(from), name(to), 3, want[:min(3, len(want))]...)
			}
			mustList(t, x, name(from), "", count, l[min(max(from-1, 0)/2, count):]...)
		}
		for most := range count + 3 {
			mustList(t, x, "", "", most, l[:min(most, count)]...)
		}
	}
}

func TestB5SmallTrees(t *testing.T) {
	x := mustNew(t, 4)
	mustLevels(t, x, []int{0})
	for i, k := range []string{"b", "a", "c", "d"} {
		mustPut(t, x, k, "")
		mustLevels(t, x, []int{i + 1})
	}
	mustPut(t, x, "e", "")
	if l := x.Levels(); len(l) != 2 || !slices.Equal(l[0], []int{2}) || len(l[1]) != 2 || sum(l[1]) != 5 || slices.Min(l[1]) < 2 {
		t.Errorf("Levels %v", l)
	}
	for _, k := range []string{"c", "a", "e", "d", "b"} {
		mustDelete(t, x, k, "")
		mustShape(t, x, 4)
	}
	mustLevels(t, x, []int{0})
}

// A root that is a leaf has up to so many keys as the order says; one more makes a second level.
func TestB5FullRoots(t *testing.T) {
	for order := 4; order <= 64; order++ {
		x := mustNew(t, order, pairs(names(order)...)...)
		mustLevels(t, x, []int{order})
		mustPut(t, x, "", "")
		if l := x.Levels(); len(l) != 2 || len(l[1]) != 2 {
			t.Errorf("order %d: Levels %v", order, l)
		}
		mustShape(t, x, order)
		mustDelete(t, x, "", "")
		mustShape(t, x, order)
		for i, k := range names(order) {
			mustDelete(t, x, k, k+"!")
			mustShape(t, x, order)
			if left := order - i - 1; left < 2*(order/2) {
				mustLevels(t, x, []int{left})
			}
		}
	}
}

// orders are ways to go through so many numbers.
func orders(count int) [][]int {
	l := make([][]int, 5)
	// Coprime to every count that is below it.
	const stride = 7919
	for i := range count {
		l[0] = append(l[0], i)
		l[1] = append(l[1], count-1-i)
		l[2] = append(l[2], i*stride%count)
		outside := i / 2
		if i%2 == 1 {
			outside = count - 1 - i/2
		}
		l[3] = append(l[3], outside)
		l[4] = append(l[4], outside)
	}
	slices.Reverse(l[4])
	return l
}

// Keys are put in each way, and deleted in each way, in trees of three levels or more; the shape is looked at behind each.
func TestB5EachOrder(t *testing.T) {
	for order := 4; order <= 64; order++ {
		count := order*order + 3
		for i, in := range orders(count) {
			out := orders(count)[(i+order)%5]
			x := mustNew(t, order)
			for _, n := range in {
				mustPut(t, x, name(n), "")
				mustShape(t, x, order)
			}
			if len(x.Levels()) < 3 || x.Len() != count {
				t.Fatalf("order %d: Len %d, Levels %v", order, x.Len(), x.Levels())
			}
			for _, n := range out {
				mustDelete(t, x, name(n), "")
				mustShape(t, x, order)
			}
			mustLevels(t, x, []int{0})
		}
	}
}

func TestB6Cursor(t *testing.T) {
	a, b, c, d := pair("a", "1"), pair("b", "2"), pair("c", "3"), pair("d", "4")
	x := mustNew(t, 4, a, c)
	cursor := x.Seek("a")
	mustTell(t, cursor, a)
	mustPut(t, x, b.Key, b.Val)
	mustTell(t, cursor, b)
	mustDelete(t, x, "c", "3")
	mustEnd(t, cursor)
	mustEnd(t, cursor)
	mustPut(t, x, d.Key, d.Val)
	mustTell(t, cursor, d)
	mustEnd(t, cursor)
	// What is no greater than the last one told is not told again.
	mustPut(t, x, c.Key, c.Val)
	mustEnd(t, cursor)
	mustDelete(t, x, "d", "4")
	mustPut(t, x, "d", "5")
	mustEnd(t, cursor)
	mustPut(t, x, "d\x00", "")
	mustTell(t, cursor, pair("d\x00", ""))
	mustEnd(t, cursor)
}

// A cursor that was at the end ahead of telling any goes on from where it was set.
func TestB6NothingYet(t *testing.T) {
	x := mustNew(t, 4)
	all, some := x.Seek(""), x.Seek("m")
	mustEnd(t, all)
	mustEnd(t, some)
	mustPut(t, x, "l", "1")
	mustEnd(t, some)
	mustPut(t, x, "n", "2")
	mustTell(t, some, pair("n", "2"))
	mustPut(t, x, "m", "3")
	mustEnd(t, some)
	mustPut(t, x, "", "0")
	mustTell(t, all, pair("", "0"))
	mustTell(t, all, pair("l", "1"))
	mustReplace(t, x, "m", "4", "3")
	mustTell(t, all, pair("m", "4"))
	mustDelete(t, x, "n", "2")
	mustEnd(t, all)
}

func TestB6FromEachPlace(t *testing.T) {
	for _, order := range []int{4, 5, 64} {
		for _, count := range []int{0, 1, 5, 70} {
			l := pairs(names(count)...)
			x := mustNew(t, order, l...)
			for from := range 2*count + 4 {
				c := x.Seek(name(from))
				for _, p := range l[min(max(from-1, 0)/2, count):] {
					mustTell(t, c, p)
				}
				mustEnd(t, c)
			}
		}
	}
	keys := oddKeys()
	x := mustNew(t, 4, pairs(keys...)...)
	for i, k := range keys {
		c := x.Seek(k)
		for _, p := range pairs(keys[i:]...) {
			mustTell(t, c, p)
		}
		mustEnd(t, c)
	}
}

// Each key is deleted as it is told, and each that it tells is put again behind the cursor: all are told once.
func TestB6ChangesUnderWay(t *testing.T) {
	for _, order := range []int{4, 5, 6, 64} {
		l := pairs(names(120)...)
		x := mustNew(t, order, l...)
		c := x.Seek("")
		for i, p := range l {
			mustTell(t, c, p)
			mustDelete(t, x, p.Key, p.Val)
			mustShape(t, x, order)
			if i%3 == 1 {
				mustPut(t, x, p.Key, "again")
				mustPut(t, x, name(2*i+1), "behind it")
			}
		}
		mustEnd(t, c)
		c = x.Seek("")
		// What is put between the last one told and the next is told.
		was := x.List("", "", math.MaxInt)
		for _, p := range was {
			mustTell(t, c, p)
			mustPut(t, x, p.Key+"-", "between")
			mustTell(t, c, pair(p.Key+"-", "between"))
		}
		mustEnd(t, c)
		mustShape(t, x, order)
	}
}

// Two cursors of one tree know nothing of each other, nor of lists that are asked for.
func TestB6CursorsAreApart(t *testing.T) {
	l := pairs(names(30)...)
	x := mustNew(t, 4, l...)
	one, other := x.Seek(""), x.Seek(name(10))
	for i := range 20 {
		mustTell(t, one, l[i])
		mustTell(t, other, l[i+4])
		mustList(t, x, "", "", 1, l[0])
		mustTell(t, x.Seek(""), l[0])
	}
}
