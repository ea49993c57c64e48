package catalog_test

import (
	"go/ast"
	"go/build"
	"go/importer"
	"go/parser"
	"go/token"
	"go/types"
	"os/exec"
	"path/filepath"
	"slices"
	"strings"
	"testing"
)

// Go leaves open when a variable or a field is read against a call in the same statement. No run shows an order that today's compiler does not take, so that the texts of all packages are looked at here: no statement may read what a call within it changes, unless that call needs it ahead (its operands), or it needs that call (the field of what it answers).

// thing is what may be changed and read: a variable, a field (of whatever struct), or the elements of some type of lists or maps.
type thing any

// program is packages' texts, and what each function, named or not, may change, and run.
type program struct {
	*types.Info
	places  *token.FileSet
	library types.Importer
	packs   map[string]*types.Package
	files   []*ast.File
	named   map[types.Object]ast.Node
	values  []ast.Expr
	changes map[ast.Node]map[thing]bool
	runs    map[ast.Node][]ast.Node
}

func newProgram() *program {
	p := &program{places: token.NewFileSet(), packs: map[string]*types.Package{}, named: map[types.Object]ast.Node{}, changes: map[ast.Node]map[thing]bool{}, runs: map[ast.Node][]ast.Node{}}
	p.Info = &types.Info{Types: map[ast.Expr]types.TypeAndValue{}, Uses: map[*ast.Ident]types.Object{}, Defs: map[*ast.Ident]types.Object{}, Selections: map[*ast.SelectorExpr]*types.Selection{}}
	// A test that was built without its paths doesn't know where the library lies.
	if build.Default.GOROOT == "" {
		root, _ := exec.Command("go", "env", "GOROOT").Output()
		build.Default.GOROOT = strings.TrimSpace(string(root))
	}
	p.library = importer.ForCompiler(p.places, "source", nil)
	return p
}

// Import reads a package of the project, or of the library.
func (p *program) Import(path string) (*types.Package, error) {
	if !strings.HasPrefix(path, "unison/") {
		return p.library.Import(path)
	}
	if known := p.packs[path]; known != nil {
		return known, nil
	}
	names, _ := filepath.Glob(filepath.Join("..", strings.TrimPrefix(path, "unison/"), "*.go"))
	var files []*ast.File
	for _, name := range names {
		if strings.HasSuffix(name, "_test.go") {
			continue
		}
		f, err := parser.ParseFile(p.places, name, nil, 0)
		if err != nil {
			return nil, err
		}
		files = append(files, f)
	}
	return p.add(path, files...)
}

func (p *program) add(path string, files ...*ast.File) (*types.Package, error) {
	known, err := (&types.Config{Importer: p}).Check(path, p.places, files, p.Info)
	p.packs[path] = known
	p.files = append(p.files, files...)
	return known, err
}

// faults are the places of reads whose order is open.
func (p *program) faults() []token.Position {
	p.findFunctions()
	for fn := range p.changes {
		p.lookInto(fn)
	}
	p.spread()
	var l []token.Position
	for _, f := range p.files {
		ast.Inspect(f, func(n ast.Node) bool {
			for _, parts := range together(n) {
				l = append(l, p.open(parts)...)
			}
			return true
		})
	}
	return l
}

// findFunctions finds those with names, and all that stand as values.
func (p *program) findFunctions() {
	for _, f := range p.files {
		called := map[ast.Node]bool{}
		ast.Inspect(f, func(n ast.Node) bool {
			switch x := n.(type) {
			case *ast.FuncDecl:
				p.named[p.Defs[x.Name]] = x
				p.changes[x] = map[thing]bool{}
			case *ast.FuncLit:
				p.changes[x] = map[thing]bool{}
				p.values = append(p.values, x)
			case *ast.CallExpr:
				called[nameOf(x.Fun)] = true
			case *ast.Ident:
				if _, ok := p.Uses[x].(*types.Func); ok && !called[x] {
					p.values = append(p.values, x)
				}
			}
			return true
		})
	}
}

// nameOf is the name by which a function is called; nil: it is called otherwise.
func nameOf(e ast.Expr) *ast.Ident {
	switch x := ast.Unparen(e).(type) {
	case *ast.Ident:
		return x
	case *ast.SelectorExpr:
		return x.Sel
	case *ast.IndexExpr:
		return nameOf(x.X)
	}
	return nil
}

// lookInto finds what a function changes by itself, and what it runs.
func (p *program) lookInto(fn ast.Node) {
	ast.Inspect(fn, func(n ast.Node) bool {
		switch x := n.(type) {
		case *ast.FuncLit:
			return x == fn
		case *ast.AssignStmt:
			for _, e := range x.Lhs {
				p.change(fn, e)
			}
		case *ast.IncDecStmt:
			p.change(fn, x.X)
		case *ast.RangeStmt:
			p.change(fn, x.Key)
			p.change(fn, x.Value)
		case *ast.CallExpr:
			runs, changed := p.effects(x)
			p.runs[fn] = append(p.runs[fn], runs...)
			for _, t := range changed {
				p.changes[fn][t] = true
			}
		}
		return true
	})
}

// change notes what an assignment in a function changes, if that is to be seen outside of it.
func (p *program) change(fn ast.Node, e ast.Expr) {
	switch x := e.(type) {
	case *ast.Ident:
		if o := p.Uses[x]; o != nil && !declaredIn(o, fn) {
			p.changes[fn][o] = true
		}
	case *ast.SelectorExpr:
		if v, ok := p.Uses[x.Sel].(*types.Var); ok && !p.ownStruct(fn, x.X) {
			p.changes[fn][v.Origin()] = true
		}
	case *ast.IndexExpr:
		p.changes[fn][p.elements(x.X)] = true
	case *ast.StarExpr:
		p.changes[fn][p.elements(x.X)] = true
	}
}

func declaredIn(o types.Object, fn ast.Node) bool { return fn.Pos() <= o.Pos() && o.Pos() < fn.End() }

// ownStruct tells whether an expression is a struct, no pointer, that a function's own variable holds.
func (p *program) ownStruct(fn ast.Node, e ast.Expr) bool {
	if _, ok := p.typeOf(e).(*types.Struct); !ok {
		return false
	}
	switch x := e.(type) {
	case *ast.Ident:
		return p.Uses[x] != nil && declaredIn(p.Uses[x], fn)
	case *ast.SelectorExpr:
		return p.ownStruct(fn, x.X)
	}
	return false
}

func (p *program) typeOf(e ast.Expr) types.Type {
	if t := p.TypeOf(e); t != nil {
		return t.Underlying()
	}
	return types.Typ[types.Invalid]
}

func (p *program) elements(e ast.Expr) thing { return "elements of " + p.typeOf(e).String() }

// effects are the functions that a call may run, those that are handed to it among them, and what it changes if it is one of the language's or of the library's.
func (p *program) effects(c *ast.CallExpr) (runs []ast.Node, changed []thing) {
	if p.Types[c.Fun].IsType() {
		return nil, nil
	}
	for _, e := range c.Args {
		runs = append(runs, p.bodies(e)...)
	}
	if name := nameOf(c.Fun); name != nil {
		switch o := p.Uses[name].(type) {
		case *types.Builtin:
			if slices.Contains([]string{"delete", "clear", "copy"}, o.Name()) {
				changed = append(changed, p.elements(c.Args[0]))
			}
			return runs, changed
		case *types.Func:
			if changesFirst(o) {
				changed = append(changed, p.elements(c.Args[0]))
			}
			return append(runs, p.bodies(name)...), changed
		}
	}
	if lit, ok := ast.Unparen(c.Fun).(*ast.FuncLit); ok {
		return append(runs, lit), nil
	}
	// A value is called: it may be each function that has as many results, and takes as many values, or one fewer (a method expression takes its receiver).
	called, _ := p.typeOf(c.Fun).(*types.Signature)
	for _, e := range p.values {
		if s, ok := p.typeOf(e).(*types.Signature); ok && called != nil && s.Results().Len() == called.Results().Len() && s.Params().Len() <= called.Params().Len() {
			runs = append(runs, p.bodies(e)...)
		}
	}
	return runs, nil
}

// changesFirst tells whether a function of the library changes the elements of what it is handed first.
func changesFirst(f *types.Func) bool {
	if f.Pkg() == nil || !slices.Contains([]string{"slices", "maps", "sort"}, f.Pkg().Path()) || strings.HasPrefix(f.Name(), "Sorted") {
		return false
	}
	for _, head := range []string{"Sort", "Reverse", "Delete", "Insert", "Replace", "Compact", "Copy", "Ints", "Strings", "Slice", "Stable"} {
		if strings.HasPrefix(f.Name(), head) {
			return true
		}
	}
	return false
}

// bodies are those of the functions that an expression may be; of an interface's method: of all methods of that name.
func (p *program) bodies(e ast.Expr) []ast.Node {
	if lit, ok := ast.Unparen(e).(*ast.FuncLit); ok {
		return []ast.Node{lit}
	}
	name := nameOf(e)
	if name == nil {
		return nil
	}
	f, ok := p.Uses[name].(*types.Func)
	if !ok {
		return nil
	}
	if fn := p.named[f.Origin()]; fn != nil {
		return []ast.Node{fn}
	}
	var l []ast.Node
	if r := f.Signature().Recv(); r != nil && types.IsInterface(r.Type()) {
		for o, fn := range p.named {
			if o.Name() == f.Name() && o.(*types.Func).Signature().Recv() != nil {
				l = append(l, fn)
			}
		}
	}
	return l
}

// spread lets each function change what those change that it runs, but for its own variables.
func (p *program) spread() {
	for again := true; again; {
		again = false
		for fn, l := range p.runs {
			for _, other := range l {
				for t := range p.changes[other] {
					v, isVar := t.(*types.Var)
					if p.changes[fn][t] || isVar && !v.IsField() && declaredIn(v, fn) {
						continue
					}
					p.changes[fn][t] = true
					again = true
				}
			}
		}
	}
}

// together are the expressions of a statement that are evaluated together.
func together(n ast.Node) [][]ast.Expr {
	switch x := n.(type) {
	case *ast.AssignStmt:
		return [][]ast.Expr{append(slices.Clone(x.Rhs), readOf(x)...)}
	case *ast.ReturnStmt:
		return [][]ast.Expr{x.Results}
	case *ast.ValueSpec:
		return [][]ast.Expr{x.Values}
	case *ast.CaseClause:
		var l [][]ast.Expr
		for _, e := range x.List {
			l = append(l, []ast.Expr{e})
		}
		return l
	case *ast.ExprStmt:
		return [][]ast.Expr{{x.X}}
	case *ast.DeferStmt:
		return [][]ast.Expr{{x.Call}}
	case *ast.IfStmt:
		return [][]ast.Expr{{x.Cond}}
	case *ast.ForStmt:
		return [][]ast.Expr{{x.Cond}}
	case *ast.SwitchStmt:
		return [][]ast.Expr{{x.Tag}}
	case *ast.RangeStmt:
		return [][]ast.Expr{{x.X}}
	}
	return nil
}

// readOf is what an assignment reads of its left side.
func readOf(a *ast.AssignStmt) []ast.Expr {
	if a.Tok != token.ASSIGN && a.Tok != token.DEFINE {
		return a.Lhs
	}
	var l []ast.Expr
	for _, e := range a.Lhs {
		switch x := e.(type) {
		case *ast.SelectorExpr:
			l = append(l, x.X)
		case *ast.IndexExpr:
			l = append(l, x.X, x.Index)
		case *ast.StarExpr:
			l = append(l, x.X)
		}
	}
	return l
}

// spot is a part of an expression: all that it stands in, and itself.
type spot []ast.Node

func (s spot) node() ast.Node { return s[len(s)-1] }

// spots are all parts, but for those of functions, which are not run there.
func spots(parts []ast.Expr) []spot {
	var l []spot
	for _, e := range parts {
		if e == nil {
			continue
		}
		var way spot
		ast.Inspect(e, func(n ast.Node) bool {
			if n == nil {
				way = way[:len(way)-1]
				return true
			}
			way = append(way, n)
			l = append(l, slices.Clone(way))
			_, lit := n.(*ast.FuncLit)
			if lit {
				way = way[:len(way)-1]
			}
			return !lit
		})
	}
	return l
}

// parted tells whether two parts stand on the two sides of one && or ||, which are evaluated one behind the other.
func parted(a, b spot) bool {
	for i := 0; i+1 < min(len(a), len(b)) && a[i] == b[i]; i++ {
		x, ok := a[i].(*ast.BinaryExpr)
		if ok && (x.Op == token.LAND || x.Op == token.LOR) && a[i+1] != b[i+1] {
			return true
		}
	}
	return false
}

// open are the places of the reads, among expressions that are evaluated together, of what a call among them changes.
func (p *program) open(parts []ast.Expr) []token.Position {
	var l []token.Position
	all := spots(parts)
	for _, c := range all {
		call, ok := c.node().(*ast.CallExpr)
		if !ok {
			continue
		}
		runs, changed := p.effects(call)
		for _, fn := range runs {
			for t := range p.changes[fn] {
				changed = append(changed, t)
			}
		}
		for _, r := range all {
			read := p.read(r)
			if read != nil && slices.Contains(changed, read) && !slices.Contains(r, c.node()) && !slices.Contains(c, r.node()) && !parted(c, r) {
				l = append(l, p.places.Position(r.node().Pos()))
			}
		}
	}
	return l
}

// read is the thing that is read at a part of an expression; nil: there is none.
func (p *program) read(s spot) thing {
	switch x := s.node().(type) {
	case *ast.Ident:
		// A field is read where it is asked of something.
		if v, ok := p.Uses[x].(*types.Var); ok && !v.IsField() {
			return v
		}
	case *ast.SelectorExpr:
		if v, ok := p.Uses[x.Sel].(*types.Var); ok {
			return v.Origin()
		}
	case *ast.IndexExpr:
		return p.elements(x.X)
	case *ast.StarExpr:
		return p.elements(x.X)
	case *ast.CallExpr:
		// How many a map has changes as its elements do.
		if name := nameOf(x.Fun); name != nil && name.Name == "len" {
			return p.elements(x.Args[0])
		}
	}
	return nil
}

// In the first of these the order of a read is open in each function; in the second one in none.
const (
	openOrders = `package x
		type cursor struct { rest string; at int; seen map[string]int; list []int }
		func (c *cursor) next() int { c.rest = c.rest[1:]; c.at++; return c.at }
		func (c *cursor) deeper() int { return c.next() }
		func (c *cursor) meet(s string) bool { c.seen[s] = 1; return true }
		func (c *cursor) lay() int { c.list = append(c.list, 1); return 1 }
		func fill(l []int) int { l[0] = 1; return 1 }
		func each(f func() int) int { return f() }
		func a(c *cursor) int { return min(c.next(), len(c.rest)) }
		func b(c *cursor) (int, int) { return c.at, c.deeper() }
		func d(c *cursor) { c.list[c.at] = c.next() }
		func e(c *cursor) { c.list = append(c.list, c.lay()) }
		func f(c *cursor, s string) (bool, int) { return c.meet(s), len(c.seen) }
		func g(l []int) int { return l[0] + fill(l) }
		func h() []int { n := 0; f := func() int { n++; return n }; return []int{n, f()} }
		func i() []int { n := 0; return []int{n, each(func() int { n++; return n })} }
		func j(c *cursor) { c.at += c.next() }
		func k(c *cursor) int { if c.rest == "" == (c.next() == 1) { return 1 }; return 2 }
		func l(c *cursor) int { go1 := c.next; return go1() + c.at }`
	plainOrders = `package x
		type cursor struct { rest string; at int; list []int }
		func (c *cursor) next() int { c.rest = c.rest[1:]; c.at++; return c.at }
		func (c *cursor) self() *cursor { c.at++; return c }
		func (c *cursor) skip(n int) int { c.at += n; return n }
		func a(c *cursor) int { n := c.next(); return min(n, len(c.rest)) }
		func b(c *cursor) bool { return c.at > 1 && c.next() > 1 && c.at > 2 || c.rest == "" }
		func d(c *cursor) { c.at = c.next() }
		func e(c *cursor) int { return c.skip(c.at) }
		func f(c *cursor) int { return c.self().at }
		func g(c *cursor) (int, int) { return c.next(), c.next() }
		func h(c *cursor) []int { c.list = append(c.list, c.next()); return c.list }
		func m(c *cursor) cursor { return cursor{at: c.next(), rest: "x"} }
		func i() func() int { n := 0; return func() int { n++; return n } }
		func j() (int, int) { one, two := i(), i(); return one(), two() }`
)

func faultsOf(t *testing.T, source string) []int {
	p := newProgram()
	f, err := parser.ParseFile(p.places, "x.go", source, 0)
	if err == nil {
		_, err = p.add("x", f)
	}
	if err != nil {
		t.Fatal(err)
	}
	var lines []int
	for _, at := range p.faults() {
		lines = append(lines, at.Line)
	}
	slices.Sort(lines)
	return slices.Compact(lines)
}

func TestR6OpenOrdersAreFound(t *testing.T) {
	if got := faultsOf(t, openOrders); !slices.Equal(got, []int{9, 10, 11, 12, 13, 14, 15, 16, 17, 18, 19}) {
		t.Errorf("open in the lines %v", got)
	}
	if got := faultsOf(t, plainOrders); len(got) != 0 {
		t.Errorf("open in the lines %v", got)
	}
}

// What a call answers (of C5 too, where it once was otherwise) hangs on no order that Go leaves open.
func TestR6NoOrderIsLeftOpen(t *testing.T) {
	p := newProgram()
	folders, _ := filepath.Glob("../*/*.go")
	for _, name := range folders {
		if _, err := p.Import("unison/" + filepath.Base(filepath.Dir(name))); err != nil {
			t.Fatal(err)
		}
	}
	for _, at := range p.faults() {
		t.Errorf("%v: what is read here, a call in the same statement changes", at)
	}
}
