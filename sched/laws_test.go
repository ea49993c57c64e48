package sched_test

import (
	"fmt"
	"math"
	"reflect"
	"slices"
	"strings"
	"testing"
	"unsafe"

	"unison/api"
	"unison/denote"
	"unison/prints"
	"unison/proc"
	"unison/sched"
)

// dice are numbers that look thrown, and are always the same.
type dice uint64

func (d *dice) below(n int) int {
	*d = *d*6364136223846793005 + 1442695040888963407
	return int(*d>>33) % n
}

// oneIn so many times it is true.
func (d *dice) oneIn(n int) bool { return d.below(n) == 0 }

func pick[T any](d *dice, l ...T) T { return l[d.below(len(l))] }

// sources are those of which thrown procedures are made; x and y are numbers.
func sources() []string {
	return []string{
		"INSERT INTO t VALUES (:x, :y)",
		"INSERT INTO t VALUES (:x + 1, :y)",
		"UPDATE t SET b = b + 1 WHERE a = :x",
		"UPDATE t SET b = b - 1 WHERE a = :y",
		"UPDATE t SET b = :y WHERE a >= :x AND a < :y",
		"UPDATE t SET a = a + 1 WHERE a = :x",
		"UPDATE t SET b = b - 1",
		"DELETE FROM t WHERE a = :x",
		"DELETE FROM t WHERE a > :y",
		"DELETE FROM t WHERE b = :x",
		"SELECT b FROM t WHERE a = :x",
		"SELECT a, b FROM t WHERE a < :y",
		"SELECT COUNT(*), SUM(b) FROM t",
		"SELECT 10 / b FROM t WHERE a = :x",
		"SELECT 1 / (b - b) FROM t WHERE a <= :x",
		"INSERT INTO u VALUES (:x, :y, 0)",
		"INSERT INTO u VALUES (:y, :x, :x)",
		"UPDATE u SET d = :y WHERE c = :x",
		"UPDATE u SET d = NULL WHERE c = :x",
		"UPDATE u SET d = d + 1 WHERE c >= :x",
		"UPDATE u SET e = e + 1 WHERE c = :x",
		"UPDATE u SET e = e + 1 WHERE c = :y",
		"UPDATE u SET e = :y WHERE e = :x",
		"DELETE FROM u WHERE c = :x",
		"SELECT d, e FROM u WHERE c = :x",
		"SELECT c FROM u WHERE d = :y",
		"SELECT e, COUNT(*) FROM u GROUP BY e ORDER BY 2 DESC, 1 LIMIT 2",
		"INSERT INTO w VALUES (:x, 'a', :y)",
		"INSERT INTO w VALUES (1, 'b', :y)",
		"UPDATE w SET v = v * 2 WHERE g = :x",
		"UPDATE w SET v = :y WHERE g = :x AND h = 'a'",
		"UPDATE w SET v = 6 / v WHERE g = :y",
		"DELETE FROM w WHERE g = 1 AND h > 'a'",
		"SELECT v FROM w WHERE g = :y",
		"SELECT h, v FROM w WHERE g = 1 AND h <= 'a'",
		"SELECT COUNT(*) FROM t JOIN w ON a = g WHERE a = :x",
		"SELECT b, v FROM t JOIN w ON a = g WHERE a = :x AND g = :x",
	}
}

// world is thrown procedures over three tables, and a state of these.
type world struct {
	dice
	base  int
	book  *proc.Book
	state api.State
}

func newWorld(t testing.TB, seed int) *world {
	t.Helper()
	w := &world{dice: dice(seed)}
	w.below(2)
	w.base = pick(&w.dice, 0, 0, 1, 7, 1<<62)
	c := api.Catalog{Tables: append(wide().Tables, api.Table{Name: "w", Columns: columns("g! I", "h! T", "v I"), Key: []int{0, 1}, Part: 1})}
	for i := range 8 {
		p := api.Proc{Name: fmt.Sprintf("p%d", i), Params: params("x I", "y I"), Rows: pick(&w.dice, 1, 4, 99, 99), Bytes: pick(&w.dice, 4, 999, 999)}
		for range 1 + w.below(4) {
			p.Body = append(p.Body, pick(&w.dice, sources()...))
		}
		c.Procs = append(c.Procs, p)
	}
	w.book = book(t, c)
	w.state = w.thrown()
	return w
}

// thrown is a state of few rows.
func (w *world) thrown() api.State {
	rows := make([]string, 3)
	for n := range 5 {
		if w.oneIn(2) {
			rows[0] += fmt.Sprintf("%d %s;", n, pick(&w.dice, "0", "1", "5", "NULL"))
		}
		if w.oneIn(2) {
			rows[1] += fmt.Sprintf("%d %s %d;", n, pick(&w.dice, "NULL", fmt.Sprint(4-n)), w.below(3))
		}
		if w.oneIn(2) {
			rows[2] += fmt.Sprintf("%d '%s' %s;", n/2, []string{"a", "b"}[n%2], pick(&w.dice, "0", "1", "3", "NULL"))
		}
	}
	return state(rows...)
}

func (w *world) call() api.Call {
	arg := func() string { return pick(&w.dice, "0", "1", "1", "2", "2", "3", "4", "5", "-1", "NULL") }
	c := call(fmt.Sprintf("p%d %s %s", w.below(8), arg(), arg()))
	c.Client, c.Seq = 1+w.below(64), 1+w.below(9)
	return c
}

// slip is a call that is not admitted.
func (w *world) slip() api.Call {
	c := w.call()
	switch w.below(4) {
	case 0:
		c.Client = pick(&w.dice, 0, -1, 65, math.MinInt)
	case 1:
		c.Seq = pick(&w.dice, 0, -1, 1<<62+1, math.MaxInt)
	case 2:
		c.Proc = pick(&w.dice, "", "p", "p8", "t")
	default:
		c.Args = pick(&w.dice, nil, c.Args[:1], append(c.Args, api.Value{}), list("1 TRUE"), list("'a' 2"))
	}
	return c
}

// placed is a call that has a place: its footprint, what it tells, and of how many steps it still is.
type placed struct {
	call  api.Call
	locks []api.Lock
	reply string
	left  int
}

// plain tells what a machine is to tell, by the chapter's words alone: what a call comes to is what the fold says, at once.
type plain struct {
	book    *proc.Book
	base    int
	waiting []api.Call
	log     []placed
	state   api.State
}

func within(l api.Lock, s string) bool { return s >= l.Lo && (l.Hi == "" || s < l.Hi) }

func common(a, b api.Lock) bool {
	return within(a, a.Lo) && within(b, a.Lo) || within(a, b.Lo) && within(b, b.Lo)
}

func inConflict(a, b []api.Lock) bool {
	for _, x := range a {
		for _, y := range b {
			if x.Table == y.Table && (x.Write || y.Write) && common(x, y) {
				return true
			}
		}
	}
	return false
}

func (p *plain) submit(c api.Call) api.Errno {
	if e := p.book.Admit(c); e != api.OK {
		return e
	}
	if len(p.waiting) >= 64 {
		return api.ErrQueue
	}
	p.waiting = append(p.waiting, c)
	return api.OK
}

func (p *plain) order(many int) (int, api.Errno) {
	if many <= 0 || many > len(p.waiting) {
		return 0, api.ErrPick
	}
	first := p.base + len(p.log)
	for range many {
		c := p.waiting[0]
		p.waiting = p.waiting[1:]
		l, _ := prints.Of(p.book, c)
		r, s := p.book.Mean(p.state, c)
		x := placed{call: c, locks: l, reply: shownReply(r), left: len(r.Results)}
		if r.Code != api.OK {
			x.left = r.At + 1
		}
		p.log, p.state = append(p.log, x), s
	}
	return first, api.OK
}

func (p *plain) canStep(i int) bool {
	if i < 0 || i >= len(p.log) || p.log[i].left == 0 {
		return false
	}
	return !slices.ContainsFunc(p.log[:i], func(x placed) bool { return x.left > 0 && inConflict(x.locks, p.log[i].locks) })
}

func (p *plain) step(pos int) api.Errno {
	if !p.canStep(pos - p.base) {
		return api.ErrPick
	}
	p.log[pos-p.base].left--
	return api.OK
}

func (p *plain) enabled() []int {
	var l []int
	for i := range p.log {
		if p.canStep(i) {
			l = append(l, p.base+i)
		}
	}
	return l
}

// open are the places of the calls that are.
func (p *plain) open() []int {
	var l []int
	for i, x := range p.log {
		if x.left > 0 {
			l = append(l, p.base+i)
		}
	}
	return l
}

// two are a machine and a plain one, to which the same is done.
type two struct {
	*world
	rig
	plain plain
}

func newTwo(t testing.TB, seed int) *two {
	t.Helper()
	w := newWorld(t, seed)
	return &two{world: w, rig: rigged(t, w.book, w.base, w.state), plain: plain{book: w.book, base: w.base, state: w.state}}
}

func (w *two) submit(t testing.TB, c api.Call) {
	t.Helper()
	w.mustSubmit(t, w.plain.submit(c), c)
}

func (w *two) order(t testing.TB, many int) {
	t.Helper()
	first, e := w.plain.order(many)
	w.mustOrder(t, many, first, e)
}

func (w *two) step(t testing.TB, pos int) {
	t.Helper()
	w.mustStep(t, w.plain.step(pos), pos)
}

// pos is a place that may be open.
func (w *two) pos() int {
	if w.oneIn(9) {
		return pick(&w.dice, math.MinInt, -1, w.base-1, w.base+len(w.plain.log), math.MaxInt)
	}
	return w.base + w.below(len(w.plain.log)+1)
}

// turn does one thing to both.
func (w *two) turn(t testing.TB) {
	t.Helper()
	switch w.below(12) {
	case 0, 1:
		w.submit(t, w.call())
	case 2:
		w.submit(t, w.slip())
	case 3:
		w.order(t, w.below(len(w.plain.waiting)+1))
	case 4:
		w.order(t, pick(&w.dice, -1, 0, len(w.plain.waiting), len(w.plain.waiting)+1, math.MinInt, math.MaxInt))
	case 5, 6:
		w.step(t, w.pos())
	default:
		if l := w.plain.enabled(); len(l) > 0 {
			w.step(t, pick(&w.dice, l...))
		}
	}
}

// alike holds all that can be asked of the machine against what the plain one tells.
func (w *two) alike(t testing.TB) {
	t.Helper()
	open, next := w.plain.open(), w.base+len(w.plain.log)
	w.mustCount(t, len(w.plain.waiting), len(w.plain.log), len(open), append(open, next)[0])
	w.mustEnable(t, w.plain.enabled()...)
	var calls []api.Call
	for i, x := range w.plain.log {
		calls = append(calls, x.call)
		if x.left > 0 {
			x.reply = "-"
		}
		w.mustReply(t, w.base+i, x.reply)
	}
	w.mustReply(t, w.base-1, "-")
	w.mustReply(t, next, "-")
	if l := w.Log(); shownCalls(l) != shownCalls(calls) {
		t.Errorf("Log = %s; want %s", shownCalls(l), shownCalls(calls))
	}
	if len(open) == 0 {
		w.mustStand(t, shownState(w.plain.state))
	}
}

// finishBy does steps till no call is open, each at the place that is chosen among those that can step.
func (w *two) finishBy(t testing.TB, chosen func(l []int) int) int {
	t.Helper()
	n := 0
	for ; w.Open() > 0; n++ {
		l := w.Enabled()
		if len(l) == 0 {
			t.Fatalf("a stop: %v are open", w.plain.open())
		}
		w.step(t, chosen(l))
		if t.Failed() {
			t.FailNow()
		}
	}
	return n
}

// What a machine tells is what the words tell, whatever is done to it; and the replies and the tables are the fold's.
func TestP202ToP206AsTheWordsSay(t *testing.T) {
	good, bad, apart := 0, 0, 0
	for seed := range 400 {
		w := newTwo(t, seed)
		for range 120 {
			w.turn(t)
			w.alike(t)
			if len(w.plain.enabled()) > 1 {
				apart++
			}
			if t.Failed() {
				t.Fatalf("seed %d", seed)
			}
		}
		w.finishBy(t, func(l []int) int { return pick(&w.dice, l...) })
		w.alike(t)
		for _, x := range w.plain.log {
			if strings.Contains(x.reply, "error") {
				bad++
			} else {
				good++
			}
		}
		if t.Failed() {
			t.Fatalf("seed %d", seed)
		}
	}
	if good < 2000 || bad < 1000 || apart < 5000 {
		t.Error(good, bad, apart)
	}
}

// Full queues, all of which is ordered at once, or one by one.
func TestP206ManyOpen(t *testing.T) {
	for seed := range 25 {
		w := newTwo(t, 5000+seed)
		for range 1 + seed%3 {
			for range 66 {
				w.submit(t, w.call())
			}
			if w.oneIn(2) {
				w.order(t, 64)
			}
			for len(w.plain.waiting) > 0 {
				w.order(t, 1)
			}
		}
		w.alike(t)
		last := seed%2 == 0
		w.finishBy(t, func(l []int) int {
			if last {
				return l[len(l)-1]
			}
			return pick(&w.dice, l...)
		})
		w.alike(t)
		if t.Failed() {
			t.Fatalf("seed %d", seed)
		}
	}
}

// orders are all orders of steps that the words admit, from what a plain one has come to on.
func (p *plain) orders() [][]int {
	l := p.enabled()
	if len(l) == 0 {
		return [][]int{nil}
	}
	var out [][]int
	for _, pos := range l {
		q := *p
		q.log = slices.Clone(p.log)
		q.step(pos)
		for _, rest := range q.orders() {
			out = append(out, append([]int{pos}, rest...))
		}
	}
	return out
}

// mustPlay does steps in an order over the places that a plain one has given, and holds what a machine comes to against the fold.
func mustPlay(t *testing.T, b *proc.Book, was api.State, p plain, order []int) {
	t.Helper()
	p.log = slices.Clone(p.log)
	w := &two{world: &world{book: b}, rig: rigged(t, b, 0, was), plain: p}
	for _, x := range p.log {
		w.mustSubmit(t, api.OK, x.call)
	}
	w.mustOrder(t, len(p.log), 0, api.OK)
	for _, pos := range order {
		w.mustEnable(t, w.plain.enabled()...)
		w.step(t, pos)
	}
	w.alike(t)
	if t.Failed() {
		t.Fatal(order)
	}
}

// All orders of steps of three calls of each few kinds.
func TestP206AllOrders(t *testing.T) {
	b, was := book(t, wide()), state("1 5; 2 5; 3 0", "1 1 1; 2 2 2")
	kinds := []string{"pay 1 2", "zero 3", "get 1 3", "cut 3", "add 3 2", "give 1 3", "note 2 7"}
	most, n := 0, len(kinds)
	for i := range n * n * n {
		p := plain{book: b, state: was}
		for _, c := range []string{kinds[i%n], kinds[i/n%n], kinds[i/n/n]} {
			p.submit(call(c))
		}
		p.order(3)
		l := p.orders()
		for _, order := range l {
			mustPlay(t, b, was, p, order)
		}
		most = max(most, len(l))
	}
	// Three calls of two steps each go in 6! / 2^3 orders, if none is in conflict with another one.
	if most != 90 {
		t.Error(most)
	}
}

// While a call is open some call can step, whichever ones are stepped; and no call takes more steps than it has statements.
func TestP207AnEnd(t *testing.T) {
	for seed := range 30 {
		for way := range 3 {
			w := newTwo(t, 9000+seed)
			most := 0
			for range 30 {
				w.submit(t, w.call())
			}
			w.order(t, 30)
			for _, c := range w.Log() {
				l, _ := w.book.Plans(c.Proc)
				most += len(l)
			}
			taken := map[int]int{}
			n := w.finishBy(t, func(l []int) int {
				pos := []int{l[0], l[len(l)-1], pick(&w.dice, l...)}[way]
				taken[pos]++
				return pos
			})
			if n > most {
				t.Errorf("seed %d: %d steps of %d statements", seed, n, most)
			}
			for i, c := range w.Log() {
				l, _ := w.book.Plans(c.Proc)
				r, _ := w.Reply(w.base + i)
				if n := taken[w.base+i]; n < 1 || n > len(l) || r.Code == api.OK && n != len(l) {
					t.Errorf("seed %d: %d steps of %s", seed, n, shownCalls([]api.Call{c}))
				}
			}
		}
	}
}

// Two that are not in conflict step by turns; of two that are, the second one waits till the first is over.
func TestP208Pairs(t *testing.T) {
	met, apart := 0, 0
	for seed := range 1000 {
		w := newTwo(t, 20000+seed)
		w.submit(t, w.call())
		w.submit(t, w.call())
		w.order(t, 2)
		first, second := w.base, w.base+1
		meet := inConflict(w.plain.log[0].locks, w.plain.log[1].locks)
		if meet {
			met++
		} else {
			apart++
		}
		for w.plain.log[0].left > 0 {
			if meet {
				w.mustStep(t, api.ErrPick, second)
			} else if w.plain.log[1].left > 0 {
				w.mustEnable(t, first, second)
				w.step(t, second)
			}
			w.step(t, first)
		}
		w.finishBy(t, func(l []int) int { return l[0] })
		w.alike(t)
		if t.Failed() {
			t.Fatalf("seed %d: %s", seed, shownCalls(w.Log()))
		}
	}
	if met < 200 || apart < 200 {
		t.Error(met, apart)
	}
}

// What a machine refuses changes nothing that it tells, nor the tables.
func TestR3RefusedChangesNothing(t *testing.T) {
	for seed := range 200 {
		w := newTwo(t, 30000+seed)
		for range 40 {
			w.turn(t)
		}
		for len(w.plain.waiting) < 64 {
			w.submit(t, w.call())
		}
		was := image(w.rig, w.base, len(w.plain.log))
		for range 40 {
			w.mustSubmit(t, api.ErrQueue, w.call())
			w.submit(t, w.slip())
			w.order(t, pick(&w.dice, 0, -1, 65, math.MinInt, math.MaxInt))
			if pos := w.pos(); !slices.Contains(w.plain.enabled(), pos) {
				w.mustStep(t, api.ErrPick, pos)
			}
		}
		if now := image(w.rig, w.base, len(w.plain.log)); now != was {
			t.Fatalf("seed %d: %s; was %s", seed, now, was)
		}
		w.alike(t)
	}
}

// image is all that a machine tells of the places about its log, and its store's rows.
func image(m rig, base, log int) string {
	out := fmt.Sprint(m.Pending(), m.Enabled(), shownCalls(m.Log()), m.Over(), m.Open())
	for pos := base - 1; pos <= base+log; pos++ {
		out += fmt.Sprintf("; %d: %s", pos, shownTold(m.Machine, pos))
	}
	return out + "; " + shownState(m.store.State())
}

// Every call ends, and none panics, at odd arguments.
func TestR1OddArguments(t *testing.T) {
	numbers := []int{math.MinInt, math.MinInt + 1, -1 << 62, -1, 0, 1, 63, 64, 65, 1<<62 - 1, 1 << 62, 1<<62 + 1, math.MaxInt - 1, math.MaxInt}
	long := strings.Repeat("x", 1<<16)
	values := []api.Value{{}, {Kind: -1}, {Kind: 4}, {Kind: 1, Int: math.MinInt}, {Kind: 2, Int: 7}, {Kind: 3, Text: long}, {Kind: 3, Int: 1, Text: "\xff"}}
	for _, base := range numbers {
		for _, x := range []struct {
			b *proc.Book
			c api.Catalog
		}{{nil, chapter()}, {book(t, chapter()), chapter()}, {book(t, api.Catalog{}), api.Catalog{}}} {
			m := sched.New(x.b, stored(t, x.c, 1, denote.Empty(x.c)), base)
			if m == nil {
				continue
			}
			for _, n := range numbers {
				for _, v := range values {
					for _, name := range []string{"", "put", "few", long, "\xff"} {
						m.Submit(api.Call{Client: n, Seq: n, Proc: name, Args: []api.Value{v, v}})
						m.Submit(api.Call{Client: 1, Seq: 1, Proc: name, Args: []api.Value{v}})
						m.Submit(api.Call{Client: 1, Seq: 1, Proc: name})
					}
				}
				m.Order(n)
				for _, pos := range []int{n, base + n, base - n} {
					m.Step(pos)
					m.Reply(pos)
				}
				m.Enabled()
				m.Over()
			}
		}
	}
}

// Of several errors the one that is named first is told.
func TestR2TheFirstError(t *testing.T) {
	for seed := range 20 {
		w := newTwo(t, 40000+seed)
		for range 64 {
			w.submit(t, w.call())
		}
		for range 20 {
			c := w.slip()
			w.mustSubmit(t, w.book.Admit(c), c)
			w.mustSubmit(t, api.ErrQueue, w.call())
		}
	}
}

func TestR4NoArgs(t *testing.T) {
	m := rigged(t, book(t, chapter()), 0, state("1 5"))
	m.mustSubmit(t, api.OK, api.Call{Client: 1, Seq: 1, Proc: "few"}, api.Call{Client: 1, Seq: 1, Proc: "few", Args: []api.Value{}})
	m.mustOrder(t, 2, 0, api.OK)
	m.mustStep(t, api.OK, 1, 0)
	for pos, c := range m.Log() {
		if len(c.Args) != 0 {
			t.Error(c)
		}
		m.mustReply(t, pos, "(1) 0")
	}
}

// texts is a catalog of a table of texts, whose procedures take and tell them.
func texts() api.Catalog {
	return api.Catalog{
		Tables: []api.Table{{Name: "t", Columns: columns("a! T", "b T"), Key: []int{0}}},
		Procs:  []api.Proc{{Name: "put", Params: params("k T", "v T"), Body: []string{"INSERT INTO t VALUES (:k, :v)", "SELECT * FROM t WHERE a = :k"}, Rows: 10, Bytes: 999}},
	}
}

// What is handed in stays as it is, its spare room too; and what becomes of it later is of no weight.
func TestR5Arguments(t *testing.T) {
	m := rigged(t, book(t, texts()), 0, state(""))
	room := list("'k' 'v' 'x' 'y'")
	c := api.Call{Client: 3, Seq: 4, Proc: "put", Args: room[:2]}
	m.mustSubmit(t, api.OK, c)
	m.mustOrder(t, 1, 0, api.OK)
	m.mustStep(t, api.OK, 0)
	m.mustSubmit(t, api.OK, c)
	if shownValues(room) != "'k' 'v' 'x' 'y'" {
		t.Error(shownValues(room))
	}
	for i := range room {
		room[i] = list("'z'")[0]
	}
	m.mustOrder(t, 1, 1, api.OK)
	m.mustStep(t, api.OK, 0, 1)
	m.mustReply(t, 0, "() 1, ('k' 'v') 0")
	m.mustReply(t, 1, wrong(api.ErrUnique, 0))
	m.mustStand(t, "'k' 'v'")
	if l := shownCalls(m.Log()); l != "3 4 put('k' 'v'), 3 4 put('k' 'v')" {
		t.Error(l)
	}
}

// spoil writes over all of a list, its spare room too.
func spoil[T any](l []T) {
	var none T
	for i := range l[:cap(l)] {
		l[:cap(l)][i] = none
	}
}

// What is done to an answer, its spare room too, is of no weight later.
func TestR5AnswersAreNew(t *testing.T) {
	for seed := range 100 {
		w := newTwo(t, 50000+seed)
		for range 60 {
			w.turn(t)
		}
		was := image(w.rig, w.base, len(w.plain.log))
		spoil(w.Enabled())
		log := w.Log()
		for _, c := range log {
			spoil(c.Args)
		}
		spoil(log)
		for i := range w.plain.log {
			r, _ := w.Reply(w.base + i)
			for _, x := range r.Results {
				for _, row := range x.Rows {
					spoil(row)
				}
				spoil(x.Rows)
			}
			spoil(r.Results)
		}
		if now := image(w.rig, w.base, len(w.plain.log)); now != was {
			t.Fatalf("seed %d: %s; was %s", seed, now, was)
		}
		w.finishBy(t, func(l []int) int { return l[0] })
		w.alike(t)
	}
}

// overlap tells whether two texts lie in the same memory.
func overlap(a, b string) bool {
	from, at := uintptr(unsafe.Pointer(unsafe.StringData(a))), uintptr(unsafe.Pointer(unsafe.StringData(b)))
	return a != "" && b != "" && from < at+uintptr(len(b)) && at < from+uintptr(len(a))
}

// allTexts are those of a machine's log, and of its replies.
func allTexts(m rig) []string {
	var out []string
	for pos, c := range m.Log() {
		out = append(out, c.Proc)
		for _, v := range c.Args {
			out = append(out, v.Text)
		}
		r, _ := m.Reply(pos)
		for _, x := range r.Results {
			for _, row := range x.Rows {
				for _, v := range row {
					out = append(out, v.Text)
				}
			}
		}
	}
	return out
}

// No text of an answer lies in the memory of one that was handed in, nor of one of another answer.
func TestR5TextsAreNew(t *testing.T) {
	long := "put" + strings.Repeat("abcdefgh", 1000)
	m := rigged(t, book(t, texts()), 0, state(""))
	text := func(at int) api.Value { return api.Value{Kind: api.Text, Text: long[at : at+9]} }
	for n := range 3 {
		m.mustSubmit(t, api.OK, api.Call{Client: 1, Seq: 1, Proc: long[:3], Args: []api.Value{text(3 + n), text(5)}})
	}
	m.mustOrder(t, 3, 0, api.OK)
	m.mustStep(t, api.OK, 0, 1, 2, 0, 1, 2)
	once, again := allTexts(m), allTexts(m)
	if len(once) != 15 {
		t.Fatal(once)
	}
	for i, a := range once {
		if overlap(a, long) {
			t.Errorf("%q is the argument's", a)
		}
		for _, b := range slices.Concat(again, once[:i]) {
			if overlap(a, b) {
				t.Errorf("%q and %q are one", a, b)
			}
		}
	}
}

// What a machine answers hangs on what was done to it alone: not on questions, nor on other machines of the same book, nor on the partitions.
func TestR6TheSameAgain(t *testing.T) {
	for seed := range 100 {
		w, quiet, other := newTwo(t, 60000+seed), newTwo(t, 60000+seed), newTwo(t, 70000+seed)
		x := stored(t, w.book.Catalog(), 1+seed%16, w.state)
		quiet.rig = rig{sched.New(w.book, x, w.base), x}
		for range 80 {
			w.turn(t)
			image(w.rig, w.base, len(w.plain.log))
			quiet.turn(t)
			other.turn(t)
		}
		if now, want := image(w.rig, w.base, len(w.plain.log)), image(quiet.rig, w.base, len(w.plain.log)); now != want {
			t.Fatalf("seed %d: %s; want %s", seed, now, want)
		}
		other.alike(t)
	}
}

// Of a reply, a field that says nothing has its zero value.
func TestR8Replies(t *testing.T) {
	m := ordered(t, state("1 5", ""), "get 1 1", "put 1 1", "zero 1")
	m.mustStep(t, api.OK, 0, 0, 1, 2, 2)
	for pos, want := range []api.Reply{{Results: []api.Result{{Rows: [][]api.Value{list("5")}}, {Rows: [][]api.Value{list("5")}}}}, {Code: api.ErrUnique}, {Code: api.ErrZero, At: 1}} {
		if r, over := m.Reply(pos); !over || !reflect.DeepEqual(r, want) {
			t.Errorf("%d: %+v; want %+v", pos, r, want)
		}
	}
}
