package syntax_test

import (
	"fmt"
	"reflect"
	"slices"
	"strconv"
	"strings"
	"testing"
	"unsafe"

	"unison/api"
	"unison/lex"
	"unison/syntax"
	"unison/value"
)

// The chapter's table, rule by rule: what stands between marks is that word or sign.
const table = `
source = statement [ ';' ] end
statement = insert | update | delete | select
insert = 'INSERT' 'INTO' NAME 'VALUES' '(' expr ( ',' expr )* ')'
update = 'UPDATE' NAME 'SET' set ( ',' set )* [ where ]
set = NAME '=' expr
delete = 'DELETE' 'FROM' NAME [ where ]
select = 'SELECT' ( '*' | item ( ',' item )* ) 'FROM' NAME [ 'JOIN' NAME 'ON' expr ] [ where ] [ 'GROUP' 'BY' column ( ',' column )* ] [ 'ORDER' 'BY' sort ( ',' sort )* ] [ 'LIMIT' NUMBER ]
where = 'WHERE' expr
item = 'COUNT' '(' '*' ')' | 'SUM' '(' expr ')' | 'MIN' '(' expr ')' | 'MAX' '(' expr ')' | expr
sort = NUMBER [ 'DESC' ]
expr = and ( 'OR' and )*
and = not ( 'AND' not )*
not = 'NOT' not | test
test = sum [ compare sum | 'IS' [ 'NOT' ] 'NULL' ]
compare = '=' | '<>' | '<' | '<=' | '>' | '>='
sum = product ( '+' product | '-' product )*
product = factor ( '*' factor | '/' factor | '%' factor )*
factor = '-' factor | NUMBER | TEXT | 'TRUE' | 'FALSE' | 'NULL' | PARAM | column | '(' expr ')'
column = NAME [ '.' NAME ]
`

// grammar has, of each rule, the rows of symbols that it may be, all by their numbers. A part in brackets is a rule of its own.
type grammar struct {
	numbers map[string]int
	rules   [][][]int
	empty   []bool
}

// line is what is yet to be read of one of the table's.
type line struct {
	*grammar
	words []string
}

func newGrammar() *grammar {
	g := &grammar{numbers: map[string]int{}}
	for _, s := range strings.Split(strings.TrimSpace(table), "\n") {
		name, is, _ := strings.Cut(s, " = ")
		l := line{g, strings.Fields(is)}
		rows := l.rows("")
		g.rules[g.number(name)] = rows
	}
	// Which rules may be nothing.
	for range g.rules {
		for n, rows := range g.rules {
			for _, row := range rows {
				g.empty[n] = g.empty[n] || !slices.ContainsFunc(row, func(x int) bool { return !g.empty[x] })
			}
		}
	}
	return g
}

func (g *grammar) number(symbol string) int {
	n, ok := g.numbers[symbol]
	if !ok {
		n = len(g.numbers)
		g.numbers[symbol] = n
		g.rules, g.empty = append(g.rules, nil), append(g.empty, false)
	}
	return n
}

// rows are those up to a closing word.
func (l *line) rows(closing string) [][]int {
	all := [][]int{nil}
	put := func(n int) { all[len(all)-1] = append(all[len(all)-1], n) }
	for len(l.words) > 0 {
		w := l.words[0]
		l.words = l.words[1:]
		switch w {
		case closing:
			return all
		case ")*":
			return l.repeated(all)
		case "|":
			all = append(all, nil)
		case "(":
			put(l.own(l.rows(")")))
		case "[":
			put(l.own(append(l.rows("]"), nil)))
		default:
			put(l.number(w))
		}
	}
	return all
}

// own is a new rule that is one of some rows.
func (l *line) own(rows [][]int) int {
	n := l.number("part " + strconv.Itoa(len(l.rules)))
	l.rules[n] = rows
	return n
}

// repeated is one of some rows, as often as one likes.
func (l *line) repeated(rows [][]int) [][]int {
	n := l.own(nil)
	for _, row := range rows {
		l.rules[n] = append(l.rules[n], append(slices.Clone(row), n))
	}
	l.rules[n] = append(l.rules[n], nil)
	return [][]int{{n}}
}

// spot is a place in a row of a rule that was begun behind so many tokens.
type spot struct{ rule, row, place, from int }

// next is the symbol at a spot; -1: the row is at its end.
func (g *grammar) next(s spot) int {
	if row := g.rules[s.rule][s.row]; s.place < len(row) {
		return row[s.place]
	}
	return -1
}

func (s spot) on() spot { return spot{s.rule, s.row, s.place + 1, s.from} }

// reader knows, behind each token, all rules that may be under way (Earley's way): with a token that none of them asks for, no source goes on.
type reader struct {
	*grammar
	behind [][]spot
}

func newReader(g *grammar) reader {
	return reader{grammar: g}.with([]spot{{rule: g.number("source")}})
}

// with is the reader behind a token that left these rules under way: it begins all that may begin then, and ends all that may end.
func (r reader) with(set []spot) reader {
	now := len(r.behind)
	seen := map[spot]bool{}
	add := func(s spot) {
		if !seen[s] {
			seen[s] = true
			set = append(set, s)
		}
	}
	for _, s := range set {
		seen[s] = true
	}
	for i := 0; i < len(set); i++ {
		s := set[i]
		next := r.next(s)
		if next >= 0 {
			for row := range r.rules[next] {
				add(spot{next, row, 0, now})
			}
			if r.empty[next] {
				add(s.on())
			}
		} else if s.from < now { // what began and ended here is nothing, and was gone over
			for _, o := range r.behind[s.from] {
				if r.next(o) == s.rule {
					add(o.on())
				}
			}
		}
	}
	return reader{r.grammar, append(slices.Clip(r.behind), set)}
}

// read is the reader behind one more token; false: no source goes on so.
func (r reader) read(symbol string) (reader, bool) {
	n := r.number(symbol)
	var set []spot
	for _, s := range r.behind[len(r.behind)-1] {
		if r.next(s) == n {
			set = append(set, s.on())
		}
	}
	if len(set) == 0 {
		return reader{}, false
	}
	return r.with(set), true
}

// symbol is what the table calls a token.
func symbol(t api.Token) string {
	switch t.Kind {
	case api.TokEnd:
		return "end"
	case api.TokNumber:
		return "NUMBER"
	case api.TokName:
		return "NAME"
	case api.TokParam:
		return "PARAM"
	case api.TokText:
		return "TEXT"
	}
	return "'" + t.Text + "'"
}

// plainFault is the fault of a source by lex, and by the table; none: it is a source, of parts however many and deep.
func plainFault(g *grammar, s string) api.Fault {
	l, at, e := lex.Scan(s)
	if e != api.OK {
		return api.Fault{Code: e, At: at}
	}
	r, ok := newReader(g), true
	for _, t := range l {
		if r, ok = r.read(symbol(t)); !ok {
			return api.Fault{Code: api.ErrSyntax, At: t.At}
		}
	}
	return api.Fault{}
}

// soundParse holds what is wrong with a source against the table, and tells its statement.
func soundParse(t *testing.T, g *grammar, s string) (api.Stmt, api.Fault) {
	t.Helper()
	got, f := syntax.Parse(s)
	want := plainFault(g, s)
	if want.Code == api.OK && (f.Code == api.ErrMany || f.Code == api.ErrDeep) {
		want = f
	}
	if f != want {
		t.Fatalf("Parse(%q): %v; want %v", s, f, want)
	}
	if f.Code != api.OK && !reflect.DeepEqual(bare(got, false), api.Stmt{}) {
		t.Fatalf("Parse(%q): %v, and yet %+v", s, f, got)
	}
	if f.Code == api.OK && !syntax.Right(got) {
		t.Fatalf("Parse(%q) = %+v, which is not right", s, got)
	}
	return got, f
}

// tokens are sources of one token each, all that the table names, and a text that says a word.
func tokens() []string {
	return strings.Fields("SELECT INSERT INTO VALUES UPDATE SET DELETE FROM JOIN ON WHERE GROUP ORDER BY DESC LIMIT AND OR NOT IS NULL TRUE FALSE COUNT SUM MIN MAX " +
		"; , ( ) . * + - / % = <> < <= > >= a 1 :p 'x' 'FROM'")
}

// All rows of tokens that sources begin with, and each other token behind them.
func TestP111AllShortSources(t *testing.T) {
	g := newGrammar()
	size := 6
	if testing.Short() {
		size = 5
	}
	count := 0
	var all func(r reader, s string, size int)
	all = func(r reader, s string, size int) {
		for _, next := range tokens() {
			long := s + next
			l, _, _ := lex.Scan(next)
			more, ok := r.read(symbol(l[0]))
			want := api.Fault{Code: api.ErrSyntax, At: len(s)}
			if ok {
				want.At = len(long)
				if _, ends := more.read("end"); ends {
					want = api.Fault{}
				}
			}
			count++
			if got, f := syntax.Parse(long); f != want || f.Code == api.OK && !syntax.Right(got) {
				t.Fatalf("Parse(%q) = %+v, %v; want %v", long, got, f, want)
			}
			if ok && size > 1 {
				all(more, long+" ", size-1)
			}
		}
	}
	all(newReader(g), "", size)
	if !testing.Short() && count < 100000 {
		t.Errorf("%d sources alone", count)
	}
}

// dice are numbers that look thrown, and are always the same.
type dice uint64

func (d *dice) below(n int) int {
	*d = *d*6364136223846793005 + 1442695040888963407
	return int(*d>>33) % n
}

// Long walks: at each step all tokens are tried, and one of those goes on that may.
func TestP111LongWalks(t *testing.T) {
	g := newGrammar()
	d := dice(2)
	for range 60 {
		r, s := newReader(g), ""
		for range 30 {
			var mays []string
			for _, next := range tokens() {
				l, _, _ := lex.Scan(next)
				if _, ok := r.read(symbol(l[0])); ok {
					mays = append(mays, next)
				} else {
					mustRefuse(t, s+next, api.ErrSyntax, len(s))
				}
			}
			if len(mays) == 0 {
				break
			}
			next := mays[d.below(len(mays))]
			l, _, _ := lex.Scan(next)
			r, _ = r.read(symbol(l[0]))
			s += next + " "
			_, ends := r.read("end")
			if _, f := syntax.Parse(s); ends && f.Code == api.ErrSyntax || !ends && f != (api.Fault{Code: api.ErrSyntax, At: len(s)}) {
				t.Fatalf("Parse(%q): %v", s, f)
			}
		}
	}
}

// writer throws statements, and writes them down as it goes, so that it knows all places. What is one too many, or too deep, it writes too.
type writer struct {
	dice
	strings.Builder
	begins   bool
	many     int
	wild     bool
	straight bool
}

// gap writes what may stand between tokens.
func (w *writer) gap(needed bool) {
	gaps := []string{" ", "\n", "\t ", " -- AND\n", " --\n  "}
	if needed || w.below(2) == 0 {
		w.WriteString(gaps[w.below(len(gaps))])
	}
}

// put writes a token, and tells its place.
func (w *writer) put(s string) int {
	before := w.String()
	w.gap(before != "" && joins(before[len(before)-1], s[0]))
	at := w.Len()
	if w.begins && w.many < 0 {
		w.many = at
	}
	w.begins = false
	w.WriteString(s)
	return at
}

// joins tells whether a byte behind another one might be of the same token, or of a remark.
func joins(a, b byte) bool {
	run := func(c byte) bool {
		return 'a' <= c && c <= 'z' || 'A' <= c && c <= 'Z' || '0' <= c && c <= '9' || c == '_'
	}
	return run(a) && run(b) || a == b || strings.IndexByte("<>=", a) >= 0 && strings.IndexByte("<>=", b) >= 0
}

// parts writes some parts of a row, with commas or words between them, and tells where the first of these stands.
func (w *writer) parts(least, most int, between string, part func()) int {
	n, first := least+w.below(3), -1
	if w.below(8) == 0 {
		n = most
	}
	if w.wild && w.below(6) == 0 {
		n = most + 1 + w.below(2)
	}
	for i := range n {
		if i > 0 {
			at := w.put(between)
			if i == 1 {
				first = at
			}
		}
		w.begins = w.begins || i == most
		part()
	}
	return first
}

func (w *writer) name() (string, int) {
	s := []string{"a", "b", "t1", "u_", "select"}[w.below(5)]
	return s, w.put(s)
}

func rank(kind, op int) int {
	switch kind {
	case api.ExprOr:
		return 1
	case api.ExprAnd:
		return 2
	case api.ExprNot:
		return 3
	case api.ExprCompare, api.ExprNull:
		return 4
	case api.ExprArith:
		if op <= api.OpSub {
			return 5
		}
		return 6
	}
	return 7
}

// expr throws an expression that stands where a rank is needed, with brackets where they must be, and where they needn't.
func (w *writer) expr(depth, need int) api.Expr {
	kind, op := 1+w.below(3), 0
	if depth > 1 && w.Len() < 700 {
		kind = 1 + w.below(10)
		if w.straight {
			kind = 4 + w.below(5)
		}
	}
	switch kind {
	case api.ExprArith:
		op = 1 + w.below(5)
	case api.ExprCompare:
		op = 1 + w.below(6)
	case api.ExprNull:
		op = w.below(2)
	}
	brackets := w.below(8) / 7
	if rank(kind, op) < need {
		brackets++
	}
	for range brackets {
		w.put("(")
	}
	e := w.inner(kind, op, depth)
	for range brackets {
		w.put(")")
	}
	return e
}

func (w *writer) inner(kind, op, depth int) api.Expr {
	e := api.Expr{Kind: kind, Op: op}
	kid := func(need int) {
		less := 1 + w.below(3)/2
		if w.straight { // one Kid goes down, the others don't: else no source has room for it
			less = 1 + len(e.Kids)*depth
		}
		e.Kids = append(e.Kids, w.expr(depth-less, need))
	}
	switch kind {
	case api.ExprValue:
		e.Value, e.At = w.literal()
	case api.ExprParam:
		e.Name, e.At = "p", w.put(":p")
	case api.ExprColumn:
		return w.column()
	case api.ExprNeg:
		e.At = w.put("-")
		kid(7)
	case api.ExprNot:
		e.At = w.put("NOT")
		kid(3)
	case api.ExprArith:
		kid(rank(kind, op))
		e.At = w.put([]string{"+", "-", "*", "/", "%"}[op-1])
		kid(rank(kind, op) + 1)
	case api.ExprCompare:
		kid(5)
		e.At = w.put([]string{"=", "<>", "<", "<=", ">", ">="}[op-1])
		kid(5)
	case api.ExprNull:
		kid(5)
		e.At = w.put("IS")
		if op == 1 {
			w.put("NOT")
		}
		w.put("NULL")
	case api.ExprAnd:
		e.At = w.parts(2, 8, "AND", func() { kid(3) })
	case api.ExprOr:
		e.At = w.parts(2, 8, "OR", func() { kid(2) })
	}
	return e
}

func (w *writer) literal() (api.Value, int) {
	v := []api.Value{{}, {Kind: api.Int}, {Kind: api.Int, Int: 7}, {Kind: api.Int, Int: 1 << 62}, {Kind: api.Bool}, {Kind: api.Bool, Int: 1}, {Kind: api.Text}, {Kind: api.Text, Text: "it's\n"}}[w.below(8)]
	s, _ := value.Print(v)
	return v, w.put(s)
}

func (w *writer) column() api.Expr {
	e := api.Expr{Kind: api.ExprColumn}
	e.Name, e.At = w.name()
	if w.below(3) == 0 {
		w.put(".")
		e.Table = e.Name
		e.Name, _ = w.name()
	}
	return e
}

func (w *writer) item(depth int) api.Expr {
	kind := 10 + w.below(8)
	if kind < api.ExprCount || kind > api.ExprMax {
		return w.expr(depth, 1)
	}
	e := api.Expr{Kind: kind, At: w.put([]string{"COUNT", "SUM", "MIN", "MAX"}[kind-api.ExprCount])}
	w.put("(")
	if kind == api.ExprCount {
		w.put("*")
	} else {
		e.Kids = one(w.expr(depth-1, 1))
	}
	w.put(")")
	return e
}

func (w *writer) stmt(depth int) api.Stmt {
	s := api.Stmt{Kind: 1 + w.below(4)}
	s.At = w.put([]string{"INSERT", "UPDATE", "DELETE", "SELECT"}[s.Kind-1])
	switch s.Kind {
	case api.StmtInsert:
		w.put("INTO")
		s.Table, _ = w.name()
		w.put("VALUES")
		w.put("(")
		w.parts(1, 16, ",", func() { s.Items = append(s.Items, w.expr(depth, 1)) })
		w.put(")")
	case api.StmtUpdate:
		s.Table, _ = w.name()
		w.put("SET")
		w.parts(1, 16, ",", func() {
			var x api.Set
			x.Name, x.At = w.name()
			w.put("=")
			x.Expr = w.expr(depth, 1)
			s.Sets = append(s.Sets, x)
		})
	case api.StmtDelete:
		w.put("FROM")
		s.Table, _ = w.name()
	case api.StmtSelect:
		w.head(&s, depth)
	}
	if s.Kind != api.StmtInsert && w.below(2) == 0 {
		w.put("WHERE")
		s.Where = one(w.expr(depth, 1))
	}
	if s.Kind == api.StmtSelect {
		w.tail(&s)
	}
	if w.below(2) == 0 {
		w.put(";")
	}
	w.gap(false)
	return s
}

// head writes a select ahead of its WHERE, tail what is behind that.
func (w *writer) head(s *api.Stmt, depth int) {
	if w.below(4) == 0 {
		s.Star = true
		w.put("*")
	} else {
		w.parts(1, 8, ",", func() { s.Items = append(s.Items, w.item(depth)) })
	}
	w.put("FROM")
	s.Table, _ = w.name()
	if w.below(3) == 0 {
		w.put("JOIN")
		s.Join, s.JoinAt = w.name()
		w.put("ON")
		s.On = one(w.expr(depth, 1))
	}
}

func (w *writer) tail(s *api.Stmt) {
	if w.below(3) == 0 {
		w.put("GROUP")
		w.put("BY")
		w.parts(1, 8, ",", func() { s.Groups = append(s.Groups, w.column()) })
	}
	if w.below(3) == 0 {
		w.put("ORDER")
		w.put("BY")
		w.parts(1, 8, ",", func() {
			x := api.Sort{Item: w.below(3)}
			x.At = w.put(strconv.Itoa(x.Item))
			if w.below(2) == 0 {
				x.Desc = true
				w.put("DESC")
			}
			s.Sorts = append(s.Sorts, x)
		})
	}
	if w.below(3) == 0 {
		w.put("LIMIT")
		s.Limit = []int{w.below(9)}
		w.put(strconv.Itoa(s.Limit[0]))
	}
}

func depthOf(e api.Expr) int {
	most := 0
	for _, k := range e.Kids {
		most = max(most, depthOf(k))
	}
	return most + 1
}

func depthOfStmt(s api.Stmt) int {
	most := 0
	for _, e := range slices.Concat(s.On, s.Where, s.Items, s.Groups) {
		most = max(most, depthOf(e))
	}
	for _, x := range s.Sets {
		most = max(most, depthOf(x.Expr))
	}
	return most
}

// thrown is a thrown statement, its source, and its fault.
func thrown(d dice, wild bool) (api.Stmt, string, api.Fault) {
	w := writer{dice: d, many: -1, wild: wild}
	depth := 1 + w.below(5)
	if wild && w.below(4) == 0 {
		depth, w.straight = 14+w.below(6), true
	}
	s := w.stmt(depth)
	switch {
	case w.Len() > 1000:
		return s, w.String(), api.Fault{Code: api.ErrLong}
	case w.many >= 0:
		return s, w.String(), api.Fault{Code: api.ErrMany, At: w.many}
	case depthOfStmt(s) > 16:
		return s, w.String(), api.Fault{Code: api.ErrDeep, At: s.At}
	}
	return s, w.String(), api.Fault{}
}

// What was written down is read as just that, places and all.
func TestP111WrittenAndRead(t *testing.T) {
	met := map[api.Errno]int{}
	for i := range 24000 {
		want, s, fault := thrown(dice(i), i%2 == 0)
		met[fault.Code]++
		if fault.Code != api.OK {
			mustRefuse(t, s, fault.Code, fault.At)
		} else {
			mustRead(t, s, want)
		}
		if t.Failed() {
			t.FailNow()
		}
		if got := syntax.Right(want); fault.Code != api.ErrLong && got != (fault.Code == api.OK) {
			t.Fatalf("%q: Right is %v", s, got)
		}
	}
	for _, e := range []api.Errno{api.OK, api.ErrMany, api.ErrDeep} {
		if met[e] < 500 {
			t.Errorf("%v was met %d times alone", e, met[e])
		}
	}
}

// A source with a token more, less, or another one, is held against the table.
func TestP111SpoiltSources(t *testing.T) {
	g := newGrammar()
	met := map[api.Errno]int{}
	d := dice(5)
	for i := range 3000 {
		_, s, fault := thrown(dice(i), false)
		if fault.Code != api.OK || len(s) > 150 {
			continue
		}
		l, _, _ := lex.Scan(s)
		at := l[d.below(len(l))].At
		other := tokens()[d.below(len(tokens()))]
		for _, spoilt := range []string{s[:at] + " " + other + " " + s[at:], s[:at], s[at:], s[:at] + other + s[min(at+1, len(s)):]} {
			_, f := soundParse(t, g, spoilt)
			met[f.Code]++
		}
	}
	if met[api.OK] < 100 || met[api.ErrSyntax] < 1000 {
		t.Error(met)
	}
}

// bare is a statement with nil for empty lists, without places if these don't count.
func bare(s api.Stmt, unplaced bool) api.Stmt {
	v := reflect.New(reflect.TypeOf(s)).Elem()
	v.Set(copied(reflect.ValueOf(s)))
	strip(v, unplaced)
	return v.Interface().(api.Stmt)
}

// copied is a value all of whose lists are new; of empty ones nil.
func copied(v reflect.Value) reflect.Value {
	to := reflect.New(v.Type()).Elem()
	switch v.Kind() {
	case reflect.Struct:
		for i := range v.NumField() {
			to.Field(i).Set(copied(v.Field(i)))
		}
	case reflect.Slice:
		for i := range v.Len() {
			to.Set(reflect.Append(to, copied(v.Index(i))))
		}
	default:
		to.Set(v)
	}
	return to
}

func strip(v reflect.Value, places bool) {
	for _, p := range partsOf(v) {
		if places && (p.name == "At" || p.name == "JoinAt") {
			p.SetInt(0)
		}
	}
}

// part is a field, or an element of a list, of a statement, with the name of the field that has it.
type part struct {
	reflect.Value
	name string
}

// partsOf are all parts of a value.
func partsOf(v reflect.Value) []part {
	var l []part
	var walk func(v reflect.Value, name string)
	walk = func(v reflect.Value, name string) {
		l = append(l, part{v, name})
		switch v.Kind() {
		case reflect.Struct:
			for i := range v.NumField() {
				walk(v.Field(i), v.Type().Field(i).Name)
			}
		case reflect.Slice:
			for i := range v.Len() {
				walk(v.Index(i), name)
			}
		}
	}
	walk(v, "")
	return l
}

// others are values that a part might have instead.
func others(p part) []reflect.Value {
	var l []reflect.Value
	switch p.Kind() {
	case reflect.Int:
		for _, n := range []int{0, 1, 2, 3, 7, 11, 15, -1, 1 << 62, 1<<62 + 1, int(p.Int()) + 1, int(p.Int()) - 1} {
			l = append(l, reflect.ValueOf(n))
		}
	case reflect.String:
		for _, s := range []string{"", "a", "A", "a b", "1", "t JOIN u ON a", "abcdefghijklmnop", "abcdefghijklmnopq", strings.Repeat("x", 65), "FROM"} {
			l = append(l, reflect.ValueOf(s))
		}
	case reflect.Bool:
		l = append(l, reflect.ValueOf(!p.Bool()))
	case reflect.Slice:
		l = append(l, reflect.Zero(p.Type()))
		longer := copied(p.Value)
		for range 9 {
			if p.Len() > 0 {
				longer = reflect.Append(longer, copied(p.Index(p.Len()-1)))
			} else {
				longer = reflect.Append(longer, filled(p.Type().Elem()))
			}
			l = append(l, longer)
		}
		if p.Len() > 1 {
			l = append(l, p.Slice(1, p.Len()))
		}
	case reflect.Struct:
		if p.Type() == reflect.TypeFor[api.Expr]() {
			for _, e := range []api.Expr{column(0, "b"), null(0), over(api.ExprCount, 0, 0), over(api.ExprMax, 0, 0, column(0, "b")), number(0, -1), over(api.ExprAnd, 0, 0, null(0), null(0))} {
				l = append(l, reflect.ValueOf(e))
			}
		}
	}
	return l
}

// filled is a part that might stand in an empty list.
func filled(t reflect.Type) reflect.Value {
	switch t {
	case reflect.TypeFor[api.Expr]():
		return reflect.ValueOf(column(0, "c"))
	case reflect.TypeFor[api.Set]():
		return reflect.ValueOf(api.Set{Name: "c", Expr: null(0)})
	}
	return reflect.Zero(t)
}

// printed is a statement's source, with brackets round all Kids; something else, if it is not right.
func printed(s api.Stmt) string {
	exprs := func(l []api.Expr) string { return joined(l, ", ", printedExpr) }
	where, limit := "", ""
	for _, e := range s.Where {
		where += " WHERE " + printedExpr(e)
	}
	switch s.Kind {
	case api.StmtInsert:
		return "INSERT INTO " + s.Table + " VALUES (" + exprs(s.Items) + ")"
	case api.StmtUpdate:
		return "UPDATE " + s.Table + " SET " + joined(s.Sets, ", ", func(x api.Set) string { return x.Name + " = " + printedExpr(x.Expr) }) + where
	case api.StmtDelete:
		return "DELETE FROM " + s.Table + where
	case api.StmtSelect:
		head := "SELECT " + exprs(s.Items)
		if s.Star {
			head = "SELECT *"
		}
		head += " FROM " + s.Table
		for _, e := range s.On {
			head += " JOIN " + s.Join + " ON " + printedExpr(e)
		}
		if len(s.Groups) > 0 {
			where += " GROUP BY " + exprs(s.Groups)
		}
		if len(s.Sorts) > 0 {
			where += " ORDER BY " + joined(s.Sorts, ", ", func(x api.Sort) string {
				if x.Desc {
					return strconv.Itoa(x.Item) + " DESC"
				}
				return strconv.Itoa(x.Item)
			})
		}
		for _, n := range s.Limit {
			limit += " LIMIT " + strconv.Itoa(n)
		}
		return head + where + limit
	}
	return "?"
}

func joined[T any](l []T, between string, print func(T) string) string {
	var s []string
	for _, x := range l {
		s = append(s, print(x))
	}
	return strings.Join(s, between)
}

func printedExpr(e api.Expr) string {
	kids := func(between string) string {
		return joined(e.Kids, " "+between+" ", func(k api.Expr) string { return "(" + printedExpr(k) + ")" })
	}
	signs := map[[2]int]string{{api.ExprArith, 1}: "+", {api.ExprArith, 2}: "-", {api.ExprArith, 3}: "*", {api.ExprArith, 4}: "/", {api.ExprArith, 5}: "%",
		{api.ExprCompare, 1}: "=", {api.ExprCompare, 2}: "<>", {api.ExprCompare, 3}: "<", {api.ExprCompare, 4}: "<=", {api.ExprCompare, 5}: ">", {api.ExprCompare, 6}: ">="}
	switch e.Kind {
	case api.ExprValue:
		if s, err := value.Print(e.Value); err == api.OK {
			return s
		}
	case api.ExprParam:
		return ":" + e.Name
	case api.ExprColumn:
		if e.Table != "" {
			return e.Table + "." + e.Name
		}
		return e.Name
	case api.ExprArith, api.ExprCompare:
		if s := signs[[2]int{e.Kind, e.Op}]; s != "" {
			return kids(s)
		}
	case api.ExprNull:
		return kids("?") + []string{" IS NULL", " IS NOT NULL"}[e.Op&1]
	case api.ExprNeg:
		return "-" + kids("?")
	case api.ExprNot:
		return "NOT " + kids("?")
	case api.ExprAnd:
		return kids("AND")
	case api.ExprOr:
		return kids("OR")
	case api.ExprCount:
		return "COUNT(*)"
	case api.ExprSum, api.ExprMin, api.ExprMax:
		return []string{"SUM", "MIN", "MAX"}[e.Kind-api.ExprSum] + "(" + joined(e.Kids, ",", printedExpr) + ")"
	}
	return "?"
}

// soundRight holds whether a statement is right against whether it is that of its own source.
func soundRight(t *testing.T, s api.Stmt) bool {
	t.Helper()
	source := printed(s)
	if len(source) > 1000 {
		return false
	}
	read, f := syntax.Parse(source)
	want := f.Code == api.OK && reflect.DeepEqual(bare(read, true), bare(s, true))
	if got := syntax.Right(s); got != want {
		t.Fatalf("Right(%+v) = %v; Parse(%q) = %+v, %v", s, got, source, read, f)
	}
	return want
}

// Each part of right statements is changed, one at a time; is it right then, and the same?
func TestP112ChangedStatements(t *testing.T) {
	right, wrong, same := 0, 0, 0
	check := func(s api.Stmt) {
		old, oldBare := bare(s, false), bare(s, true)
		for _, p := range partsOf(reflect.ValueOf(&s).Elem()) {
			was := reflect.New(p.Type()).Elem()
			was.Set(p.Value)
			for _, o := range others(p) {
				p.Set(o)
				want := reflect.DeepEqual(bare(s, true), oldBare)
				if syntax.Same(s, old) != want || syntax.Same(old, s) != want {
					t.Fatalf("%+v and %+v: Same is %v", s, old, !want)
				}
				if soundRight(t, s) {
					right++
				} else {
					wrong++
				}
				if want {
					same++
				}
				p.Set(was)
			}
		}
	}
	for _, s := range rightOnes() {
		if len(printed(s)) < 250 {
			check(bare(s, false))
		}
	}
	for i := range 100 {
		if s, source, f := thrown(dice(i), false); f.Code == api.OK && len(source) < 150 {
			check(s)
		}
	}
	if right < 1000 || wrong < 1000 || same < 1000 {
		t.Error(right, wrong, same)
	}
}

// Two thrown statements are the same, just if they are without their places.
func TestP112ThrownPairs(t *testing.T) {
	for i := range 3000 {
		a, _, _ := thrown(dice(i/2), true)
		b, _, _ := thrown(dice((i+1)/2), true)
		if want := reflect.DeepEqual(bare(a, true), bare(b, true)); syntax.Same(a, b) != want {
			t.Fatalf("%+v and %+v: Same is %v", a, b, !want)
		}
	}
}

// The same tokens, with other things between them, are the same statement.
func TestP113OtherGaps(t *testing.T) {
	d := dice(9)
	for i := range 3000 {
		_, s, f := thrown(dice(i), false)
		if f.Code != api.OK {
			continue
		}
		a, _ := syntax.Parse(s)
		for _, again := range []string{regapped(s, " "), regapped(s, "\n--;\n"), regapped(s, strings.Repeat("\t", 1+d.below(3))), strings.TrimRight(s, " \t\n") + "\n;", s + "-- end"} {
			if l, _, _ := lex.Scan(s); len(again) > 1000 || strings.HasSuffix(again, ";") && symbol(l[len(l)-2]) == "';'" {
				continue
			}
			if b, g := syntax.Parse(again); g != (api.Fault{}) || !syntax.Same(a, b) {
				t.Fatalf("%q: %+v; %q: %+v, %v", s, a, again, b, g)
			}
		}
	}
}

// regapped is a source with a gap, and no other, between all tokens.
func regapped(s, gap string) string {
	l, _, _ := lex.Scan(s)
	var all []string
	for i, x := range l[:len(l)-1] {
		_, _, e := lex.Scan(s[x.At:l[i+1].At])
		if e != api.OK {
			return s
		}
		piece, _, _ := strings.Cut(s[x.At:l[i+1].At], "--")
		if x.Kind == api.TokText {
			piece = s[x.At:l[i+1].At]
			piece = piece[:strings.LastIndexByte(piece, '\'')+1]
		}
		all = append(all, strings.TrimRight(piece, " \t\n"))
	}
	return gap + strings.Join(all, gap) + gap
}

func FuzzP111ToP113(f *testing.F) {
	g := newGrammar()
	for i := range 50 {
		_, s, _ := thrown(dice(i), i%2 == 0)
		f.Add(s)
	}
	for _, s := range tokens() {
		f.Add("SELECT " + s + " FROM t")
	}
	f.Fuzz(func(t *testing.T, s string) {
		if len(s) > 200 && len(s) <= 1000 { // the plain way is slow
			s = s[:200]
		}
		got, fault := soundParse(t, g, s)
		if fault.Code == api.OK && !soundRight(t, got) && len(printed(got)) <= 1000 {
			t.Fatalf("%q", s)
		}
	})
}

// memory is where a statement lies: its texts that have bytes, and the places of its lists.
func memory(s *api.Stmt) (texts []string, lists []uintptr) {
	for _, p := range partsOf(reflect.ValueOf(s).Elem()) {
		if p.Kind() == reflect.String && p.Len() > 0 {
			texts = append(texts, p.String())
		}
		if p.Kind() == reflect.Slice && p.Cap() > 0 {
			lists = append(lists, p.Pointer())
		}
	}
	return texts, lists
}

// lies tells whether a text's bytes lie within those of another one.
func lies(s, long string) bool {
	at, from := uintptr(unsafe.Pointer(unsafe.StringData(s))), uintptr(unsafe.Pointer(unsafe.StringData(long)))
	return len(s) > 0 && at >= from && at < from+uintptr(len(long))
}

func TestR5AnswersAreNew(t *testing.T) {
	source := strings.Clone("SELECT abc, t.abc, SUM(abc + 'abc'), :abc FROM abc JOIN abc ON abc.abc = 'abc' AND abc OR abc WHERE abc IS NULL GROUP BY abc, abc.abc ORDER BY 1, 2 LIMIT 1")
	got, f := syntax.Parse(source)
	again, _ := syntax.Parse(source)
	if f != (api.Fault{}) {
		t.Fatal(f)
	}
	texts, lists := memory(&got)
	moreTexts, moreLists := memory(&again)
	all := append(texts, moreTexts...)
	for i, s := range all {
		for j, o := range append(slices.Clone(all), source) {
			if i != j && lies(s, o) {
				t.Errorf("the text %d, %q, lies in %q", i, s, o)
			}
		}
	}
	places := append(lists, moreLists...)
	slices.Sort(places)
	if len(slices.Compact(slices.Clone(places))) != len(places) || len(lists) < 10 {
		t.Errorf("of %d lists some are the same", len(places))
	}
}

// What is handed in stays as it is, its spare room too.
func TestR5ArgumentsStay(t *testing.T) {
	for i := range 300 {
		a, _, _ := thrown(dice(i), true)
		for _, p := range partsOf(reflect.ValueOf(&a).Elem()) {
			if p.Kind() == reflect.Slice {
				roomy := reflect.MakeSlice(p.Type(), p.Len(), p.Len()+3)
				reflect.Copy(roomy, p.Value)
				p.Set(roomy)
			}
		}
		before := fmt.Sprintf("%+v %v", a, spare(&a))
		b := a
		syntax.Right(a)
		syntax.Same(a, b)
		if after := fmt.Sprintf("%+v %v", a, spare(&a)); after != before {
			t.Fatalf("%s; then %s", before, after)
		}
	}
}

// spare is what stands in the spare room of a statement's lists.
func spare(s *api.Stmt) string {
	var l []string
	for _, p := range partsOf(reflect.ValueOf(s).Elem()) {
		if p.Kind() == reflect.Slice {
			l = append(l, fmt.Sprintf("%+v", p.Slice3(p.Len(), p.Cap(), p.Cap()).Interface()))
		}
	}
	return strings.Join(l, "|")
}

// The longest and deepest sources are read to their ends.
func TestR1LongSources(t *testing.T) {
	for _, x := range []struct {
		s  string
		at int
	}{
		{"DELETE FROM t WHERE " + strings.Repeat("(", 980), 1000},
		{"DELETE FROM t WHERE " + strings.Repeat("- ", 490), 1000},
		{"DELETE FROM t WHERE " + strings.Repeat("NOT ", 245), 1000},
		{"DELETE FROM t WHERE a" + strings.Repeat(")", 979), 21},
		{"SELECT a" + strings.Repeat(",a", 496), 1000},
		{strings.Repeat("SELECT ", 142), 7},
		{strings.Repeat(";", 1000), 0},
		{strings.Repeat(" ", 1000), 1000},
	} {
		mustRefuse(t, x.s, api.ErrSyntax, x.at)
	}
	mustRefuse(t, "DELETE FROM t WHERE "+strings.Repeat("- ", 489)+"a", api.ErrDeep, 0)
	mustRefuse(t, "DELETE FROM t WHERE a"+strings.Repeat("+a", 489), api.ErrDeep, 0)
	mustRefuse(t, "INSERT INTO t VALUES (a"+strings.Repeat(",a", 488)+")", api.ErrMany, 22+32)
}

func TestR6TheSameAgain(t *testing.T) {
	for i := range 300 {
		_, s, _ := thrown(dice(i), true)
		one, f := syntax.Parse(s)
		two, g := syntax.Parse(s)
		if f != g || !reflect.DeepEqual(one, two) {
			t.Errorf("%q: %+v, %v; then %+v, %v", s, one, f, two, g)
		}
	}
}
