package pretty_test

import (
	"fmt"
	"reflect"
	"slices"
	"strconv"
	"strings"
	"testing"
	"unsafe"

	"unison/api"
	"unison/lex"
	"unison/pretty"
	"unison/syntax"
	"unison/value"
)

// form is how expressions of a kind, and a sign, are written: their own rank, what each Kid needs, and the text with a # for each Kid.
type form struct {
	rank  int
	needs []int
	text  string
}

// forms are the chapter's list, by kind and sign; of rows and parameters see formOf.
var forms = map[[2]int]form{
	{api.ExprNeg, 0}:             {7, []int{7}, "-#"},
	{api.ExprArith, api.OpAdd}:   {5, []int{5, 6}, "# + #"},
	{api.ExprArith, api.OpSub}:   {5, []int{5, 6}, "# - #"},
	{api.ExprArith, api.OpMul}:   {6, []int{6, 7}, "# * #"},
	{api.ExprArith, api.OpDiv}:   {6, []int{6, 7}, "# / #"},
	{api.ExprArith, api.OpMod}:   {6, []int{6, 7}, "# % #"},
	{api.ExprCompare, api.CmpEq}: {4, []int{5, 5}, "# = #"},
	{api.ExprCompare, api.CmpNe}: {4, []int{5, 5}, "# <> #"},
	{api.ExprCompare, api.CmpLt}: {4, []int{5, 5}, "# < #"},
	{api.ExprCompare, api.CmpLe}: {4, []int{5, 5}, "# <= #"},
	{api.ExprCompare, api.CmpGt}: {4, []int{5, 5}, "# > #"},
	{api.ExprCompare, api.CmpGe}: {4, []int{5, 5}, "# >= #"},
	{api.ExprNull, 0}:            {4, []int{5}, "# IS NULL"},
	{api.ExprNull, 1}:            {4, []int{5}, "# IS NOT NULL"},
	{api.ExprNot, 0}:             {3, []int{3}, "NOT #"},
	{api.ExprCount, 0}:           {7, nil, "COUNT(*)"},
	{api.ExprSum, 0}:             {7, []int{1}, "SUM(#)"},
	{api.ExprMin, 0}:             {7, []int{1}, "MIN(#)"},
	{api.ExprMax, 0}:             {7, []int{1}, "MAX(#)"},
}

func formOf(e api.Expr) form {
	switch e.Kind {
	case api.ExprParam:
		return form{7, nil, ":" + e.Name}
	case api.ExprAnd:
		return form{2, slices.Repeat([]int{3}, len(e.Kids)), "#" + strings.Repeat(" AND #", len(e.Kids)-1)}
	case api.ExprOr:
		return form{1, slices.Repeat([]int{2}, len(e.Kids)), "#" + strings.Repeat(" OR #", len(e.Kids)-1)}
	}
	return forms[[2]int{e.Kind, e.Op}]
}

// plainExpr is an expression's text by the chapter's list; brackets says whether they stand round a Kid of a rank where one is needed.
func plainExpr(e api.Expr, brackets func(rank, need int) bool) string {
	switch e.Kind {
	case api.ExprValue:
		s, _ := value.Print(e.Value)
		return s
	case api.ExprColumn:
		return strings.TrimPrefix(e.Table+"."+e.Name, ".")
	}
	f := formOf(e)
	out := ""
	for i, piece := range strings.Split(f.text, "#") {
		if i > 0 {
			kid := plainExpr(e.Kids[i-1], brackets)
			if brackets(rankOf(e.Kids[i-1]), f.needs[i-1]) {
				kid = "(" + kid + ")"
			}
			if e.Kind == api.ExprNeg && kid[0] == '-' {
				kid = " " + kid
			}
			out += kid
		}
		out += piece
	}
	return out
}

func rankOf(e api.Expr) int {
	if e.Kind == api.ExprValue || e.Kind == api.ExprColumn {
		return 7
	}
	return formOf(e).rank
}

func fewest(rank, need int) bool { return rank < need }

// everywhere has brackets round all Kids, but those of SUM, MIN and MAX.
func everywhere(_, need int) bool { return need > 1 }

// plain is a right statement's text by the chapter's table.
func plain(s api.Stmt) string { return plainStmt(s, fewest) }

func plainStmt(s api.Stmt, brackets func(rank, need int) bool) string {
	expr := func(e api.Expr) string { return plainExpr(e, brackets) }
	head := map[int]string{
		api.StmtInsert: "INSERT INTO " + s.Table + " VALUES (" + joined(s.Items, ", ", expr) + ")",
		api.StmtUpdate: "UPDATE " + s.Table + " SET " + joined(s.Sets, ", ", func(x api.Set) string { return x.Name + " = " + expr(x.Expr) }),
		api.StmtDelete: "DELETE FROM " + s.Table,
		api.StmtSelect: "SELECT " + joined(s.Items, ", ", expr) + map[bool]string{true: "*"}[s.Star] + " FROM " + s.Table,
	}[s.Kind]
	clause := func(words, rest string) {
		if rest != "" {
			head += " " + words + " " + rest
		}
	}
	clause("JOIN "+s.Join+" ON", joined(s.On, "?", expr))
	clause("WHERE", joined(s.Where, "?", expr))
	clause("GROUP BY", joined(s.Groups, ", ", expr))
	clause("ORDER BY", joined(s.Sorts, ", ", func(x api.Sort) string { return strconv.Itoa(x.Item) + map[bool]string{true: " DESC"}[x.Desc] }))
	clause("LIMIT", joined(s.Limit, "?", strconv.Itoa))
	return head
}

func joined[T any](l []T, between string, print func(T) string) string {
	var s []string
	for _, x := range l {
		s = append(s, print(x))
	}
	return strings.Join(s, between)
}

// sound holds all that is promised of a right statement against what is said of it, and tells its text.
func sound(t *testing.T, s api.Stmt) (string, api.Errno) {
	t.Helper()
	got, e := pretty.Print(s)
	want := plain(s)
	if len(want) > 1000 {
		if got != "" || e != api.ErrLong {
			t.Fatalf("Print(%+v) = %q, %v; want ErrLong", s, got, e)
		}
		return got, e
	}
	if got != want || e != api.OK {
		t.Fatalf("Print(%+v) = %q, %v; want %q", s, got, e, want)
	}
	read, f := syntax.Parse(got)
	if f != (api.Fault{}) || !syntax.Same(read, s) {
		t.Fatalf("Parse(%q) = %+v, %v; want %+v", got, read, f, s)
	}
	if again, e := pretty.Print(read); again != got || e != api.OK {
		t.Fatalf("%q is printed again as %q, %v", got, again, e)
	}
	return got, e
}

// exprs are all expressions of at most a depth, over few leaves.
func exprs(depth int) []api.Expr {
	l := []api.Expr{column("a")}
	if depth == 1 {
		return l
	}
	kids := exprs(depth - 1)
	for _, a := range kids {
		l = append(l, neg(a), over(api.ExprNot, 0, a), over(api.ExprNull, 0, a), over(api.ExprNull, 1, a))
		for _, b := range kids {
			for op := range 5 {
				l = append(l, over(api.ExprArith, op+1, a, b))
			}
			for op := range 6 {
				l = append(l, over(api.ExprCompare, op+1, a, b))
			}
			l = append(l, over(api.ExprAnd, 0, a, b), over(api.ExprOr, 0, a, b))
		}
	}
	return l
}

func TestP121P122AllSmallExpressions(t *testing.T) {
	l := exprs(3)
	if len(l) < 4000 {
		t.Fatal(len(l))
	}
	for i, e := range l {
		sound(t, deletion(e))
		sound(t, selection(e, over(api.ExprSum+i%3, 0, e)))
		for _, o := range []api.Expr{neg(e), over(api.ExprNot, 0, e), over(api.ExprNull, i%2, e), over(api.ExprArith, 1+i%5, e, e), over(api.ExprCompare, 1+i%6, e, e), over(api.ExprAnd, 0, e, e, e), over(api.ExprOr, 0, e, e, e)} {
			sound(t, deletion(o))
		}
	}
}

// What stands in brackets is read otherwise, or not at all, without them.
func TestP121NoNeedlessBrackets(t *testing.T) {
	pairs := 0
	check := func(s api.Stmt) {
		text, _ := sound(t, s)
		tokens, _, _ := lex.Scan(text)
		var open []int
		for i, x := range tokens {
			if x.Kind != api.TokSign {
				continue
			}
			if x.Text == "(" {
				open = append(open, i)
			}
			if x.Text == ")" {
				from := open[len(open)-1]
				open = open[:len(open)-1]
				if ahead := tokens[from-1].Text; slices.Contains([]string{"VALUES", "COUNT", "SUM", "MIN", "MAX"}, ahead) {
					continue
				}
				pairs++
				without := text[:tokens[from].At] + " " + text[tokens[from].At+1:x.At] + " " + text[x.At+1:]
				if r, f := syntax.Parse(without); f == (api.Fault{}) && syntax.Same(r, s) {
					t.Fatalf("%q is read as %q is", without, text)
				}
			}
		}
	}
	for _, e := range exprs(3) {
		check(deletion(e))
	}
	for i := range 2000 {
		check(thrown(dice(i)))
	}
	if pairs < 5000 {
		t.Error(pairs)
	}
}

// dice are numbers that look thrown, and are always the same.
type dice uint64

func (d *dice) below(n int) int {
	*d = *d*6364136223846793005 + 1442695040888963407
	return int(*d>>33) % n
}

func (d *dice) name() string {
	return []string{"a", "b", "t1", "u_", "select", "abcdefghijklmnop"}[d.below(6)]
}

// many is how many parts a list gets.
func (d *dice) many(least, most int) int {
	if d.below(8) == 0 {
		return most
	}
	return least + d.below(3)
}

func (d *dice) expr(depth int) api.Expr {
	kind := 1 + d.below(3)
	if depth > 1 && d.below(8) > 0 {
		kind = 4 + d.below(7)
	}
	e := api.Expr{Kind: kind, At: d.below(9)}
	kids := func(n int) {
		for range n {
			e.Kids = append(e.Kids, d.expr(depth-1-d.below(3)))
		}
	}
	switch kind {
	case api.ExprValue:
		bytes := []byte{'a', '\'', '\\', '-', 10, 200, ' ', '('}
		e.Value = []api.Value{{}, {Kind: api.Int}, {Kind: api.Int, Int: d.below(1 << 30)}, {Kind: api.Int, Int: 1 << 62}, {Kind: api.Bool, Int: d.below(2)}, {Kind: api.Text, Text: string(bytes[d.below(8):])}}[d.below(6)]
	case api.ExprParam:
		e.Name = d.name()
	case api.ExprColumn:
		e = d.column()
	case api.ExprArith:
		e.Op = 1 + d.below(5)
		kids(2)
	case api.ExprCompare:
		e.Op = 1 + d.below(6)
		kids(2)
	case api.ExprNull:
		e.Op = d.below(2)
		kids(1)
	case api.ExprNeg, api.ExprNot:
		kids(1)
	case api.ExprAnd, api.ExprOr:
		kids(d.many(2, 8))
	}
	return e
}

func (d *dice) column() api.Expr {
	e := column(d.name())
	if d.below(3) == 0 {
		e.Table = d.name()
	}
	return e
}

func (d *dice) item(depth int) api.Expr {
	kind := 10 + d.below(8)
	if kind < api.ExprCount || kind > api.ExprMax {
		return d.expr(depth)
	}
	e := api.Expr{Kind: kind}
	if kind != api.ExprCount {
		e.Kids = one(d.expr(depth - 1))
	}
	return e
}

// thrown is a right statement, of no more than a short way down.
func thrown(d dice) api.Stmt {
	depth := 1 + d.below(6)
	s := api.Stmt{Kind: 1 + d.below(4), Table: d.name(), At: d.below(5)}
	switch s.Kind {
	case api.StmtInsert:
		for range d.many(1, 16) {
			s.Items = append(s.Items, d.expr(depth))
		}
		return s
	case api.StmtUpdate:
		for range d.many(1, 16) {
			s.Sets = append(s.Sets, api.Set{Name: d.name(), Expr: d.expr(depth)})
		}
	case api.StmtSelect:
		d.selection(&s, depth)
	}
	if d.below(2) == 0 {
		s.Where = one(d.expr(depth))
	}
	return s
}

func (d *dice) selection(s *api.Stmt, depth int) {
	s.Star = d.below(4) == 0
	for range d.many(1, 8) {
		if !s.Star {
			s.Items = append(s.Items, d.item(depth))
		}
	}
	if d.below(3) == 0 {
		s.Join, s.On, s.JoinAt = d.name(), one(d.expr(depth)), d.below(5)
	}
	if d.below(3) == 0 {
		for range d.many(1, 8) {
			s.Groups = append(s.Groups, d.column())
		}
	}
	if d.below(3) == 0 {
		for range d.many(1, 8) {
			s.Sorts = append(s.Sorts, api.Sort{Item: d.below(12), Desc: d.below(2) == 0, At: d.below(5)})
		}
	}
	if d.below(3) == 0 {
		s.Limit = []int{d.below(1000)}
	}
}

func TestP121P122ThrownStatements(t *testing.T) {
	met := map[api.Errno]int{}
	for i := range 30000 {
		s := thrown(dice(i))
		if !syntax.Right(s) {
			t.Fatalf("%+v is not right", s)
		}
		_, e := sound(t, s)
		met[e]++
	}
	if met[api.OK] < 10000 || met[api.ErrLong] < 300 {
		t.Error(met)
	}
}

// scrawled is a source of a statement with all brackets that may stand there, and with anything between the tokens; nothing, if that has no room.
func scrawled(d dice, s api.Stmt) string {
	source := plainStmt(s, everywhere)
	tokens, _, e := lex.Scan(source)
	if e != api.OK {
		return ""
	}
	gaps := []string{" ", "\n", " -- (\n", "\t", "  "}
	var out strings.Builder
	for i, x := range tokens[:len(tokens)-1] {
		out.WriteString(strings.TrimRight(source[x.At:tokens[i+1].At], " "))
		out.WriteString(gaps[d.below(len(gaps))])
	}
	return out.String() + []string{"", ";", ";\n--"}[d.below(3)]
}

func TestP122ScrawledSources(t *testing.T) {
	read := 0
	for i := range 20000 {
		s := thrown(dice(i))
		source := scrawled(dice(i), s)
		if source == "" || len(source) > 1000 {
			continue
		}
		got, f := syntax.Parse(source)
		if f != (api.Fault{}) || !syntax.Same(got, s) {
			t.Fatalf("Parse(%q) = %+v, %v; want %+v", source, got, f, s)
		}
		read++
		if text, _ := sound(t, got); text != "" && text != plain(s) {
			t.Fatalf("%q is printed as %q", source, text)
		}
	}
	if read < 5000 {
		t.Error(read)
	}
}

// Two statements have one text, just if they are the same.
func TestP122OneTextAStatement(t *testing.T) {
	texts := map[string]api.Stmt{}
	for i := range 20000 {
		s := thrown(dice(i))
		text, e := pretty.Print(s)
		if e != api.OK {
			continue
		}
		if o, ok := texts[text]; ok && !syntax.Same(s, o) {
			t.Fatalf("%q is of %+v, and of %+v", text, s, o)
		}
		texts[text] = s
	}
	if len(texts) < 5000 {
		t.Error(len(texts))
	}
}

// part is a field, or an element of a list, of a statement, with the name of the field that has it.
type part struct {
	reflect.Value
	name string
}

// partsOf are all parts of a value.
func partsOf(v reflect.Value) []part {
	var l []part
	var walk func(v reflect.Value, name string)
	walk = func(v reflect.Value, name string) {
		l = append(l, part{v, name})
		switch v.Kind() {
		case reflect.Struct:
			for i := range v.NumField() {
				walk(v.Field(i), v.Type().Field(i).Name)
			}
		case reflect.Slice:
			for i := range v.Len() {
				walk(v.Index(i), name)
			}
		}
	}
	walk(v, "")
	return l
}

// others are values that a part might have instead.
func others(p part) []reflect.Value {
	var l []reflect.Value
	switch p.Kind() {
	case reflect.Int:
		for _, n := range []int{0, 1, 2, 5, 6, 7, 11, 14, 15, -1, 1 << 62, 1<<62 + 1} {
			l = append(l, reflect.ValueOf(n))
		}
	case reflect.String:
		for _, s := range []string{"", "a", "A", "a b", "1", "FROM", "abcdefghijklmnopq", strings.Repeat("x", 65)} {
			l = append(l, reflect.ValueOf(s))
		}
	case reflect.Bool:
		l = append(l, reflect.ValueOf(!p.Bool()))
	case reflect.Slice:
		l = append(l, reflect.Zero(p.Type()), reflect.MakeSlice(p.Type(), 1, 1))
		if p.Len() > 0 {
			l = append(l, reflect.AppendSlice(p.Slice3(0, p.Len(), p.Len()), p.Value), p.Slice(1, p.Len()))
		}
	}
	return l
}

// Each part of right statements is changed, one at a time: it is printed, just if it is right then. Places say nothing.
func TestP121ChangedStatements(t *testing.T) {
	right, wrong := 0, 0
	for i := range 400 {
		s := thrown(dice(i))
		if len(plain(s)) > 150 {
			continue
		}
		old, _ := pretty.Print(s)
		for _, p := range partsOf(reflect.ValueOf(&s).Elem()) {
			was := reflect.New(p.Type()).Elem()
			was.Set(p.Value)
			for _, o := range others(p) {
				p.Set(o)
				if syntax.Right(s) {
					right++
					if text, _ := sound(t, s); (p.name == "At" || p.name == "JoinAt") && text != old {
						t.Fatalf("%q is printed as %q at another place", old, text)
					}
				} else {
					wrong++
					mustRefuse(t, s, api.ErrTree)
				}
				p.Set(was)
			}
		}
		if t.Failed() {
			t.FailNow()
		}
	}
	if right < 1000 || wrong < 1000 {
		t.Error(right, wrong)
	}
}

func FuzzP121P122(f *testing.F) {
	for i := range 100 {
		f.Add(scrawled(dice(i), thrown(dice(i))), uint64(i))
	}
	f.Fuzz(func(t *testing.T, source string, seed uint64) {
		if s, fault := syntax.Parse(source); fault == (api.Fault{}) {
			sound(t, s)
		}
		sound(t, thrown(dice(seed)))
	})
}

// Empty lists are as none.
func TestR4EmptyLists(t *testing.T) {
	for i := range 300 {
		s := thrown(dice(i))
		want, e := pretty.Print(s)
		for _, p := range partsOf(reflect.ValueOf(&s).Elem()) {
			if p.Kind() == reflect.Slice && p.Len() == 0 {
				p.Set(reflect.MakeSlice(p.Type(), 0, 3))
			}
		}
		if got, f := pretty.Print(s); got != want || f != e {
			t.Fatalf("%q, %v; with empty lists %q, %v", want, e, got, f)
		}
	}
}

// lies tells whether a text's bytes lie within those of another one.
func lies(s, long string) bool {
	at, from := uintptr(unsafe.Pointer(unsafe.StringData(s))), uintptr(unsafe.Pointer(unsafe.StringData(long)))
	return len(s) > 0 && at >= from && at < from+uintptr(len(long))
}

func TestR5AnswersAreNew(t *testing.T) {
	for i := range 300 {
		s := thrown(dice(i))
		got, _ := pretty.Print(s)
		again, _ := pretty.Print(s)
		if lies(got, again) {
			t.Fatalf("%q is told twice as one", got)
		}
		for _, p := range partsOf(reflect.ValueOf(&s).Elem()) {
			if p.Kind() == reflect.String && (lies(p.String(), got) || lies(got, p.String())) {
				t.Fatalf("%q lies in %q", p.String(), got)
			}
		}
	}
}

// What is handed in stays as it is, its spare room too.
func TestR5ArgumentsStay(t *testing.T) {
	for i := range 300 {
		s := thrown(dice(i))
		for _, p := range partsOf(reflect.ValueOf(&s).Elem()) {
			if p.Kind() == reflect.Slice {
				roomy := reflect.MakeSlice(p.Type(), p.Len(), p.Len()+3)
				reflect.Copy(roomy, p.Value)
				p.Set(roomy)
			}
		}
		before := fmt.Sprintf("%+v %v", s, spare(&s))
		pretty.Print(s)
		if after := fmt.Sprintf("%+v %v", s, spare(&s)); after != before {
			t.Fatalf("%s; then %s", before, after)
		}
	}
}

// spare is what stands in the spare room of a statement's lists.
func spare(s *api.Stmt) string {
	var l []string
	for _, p := range partsOf(reflect.ValueOf(s).Elem()) {
		if p.Kind() == reflect.Slice {
			l = append(l, fmt.Sprintf("%+v", p.Slice3(p.Len(), p.Cap(), p.Cap()).Interface()))
		}
	}
	return strings.Join(l, "|")
}

func TestR6TheSameAgain(t *testing.T) {
	for i := range 300 {
		s := thrown(dice(i))
		got, e := pretty.Print(s)
		pretty.Print(thrown(dice(i + 1)))
		if again, f := pretty.Print(s); again != got || f != e {
			t.Fatalf("%q, %v; then %q, %v", got, e, again, f)
		}
	}
}
