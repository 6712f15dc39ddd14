// Package rules holds the packages' sources against the rules that no answer shows: what they import, what they export, which ways they lean on.
package rules

import (
	"go/ast"
	"go/parser"
	"go/token"
	"path/filepath"
	"slices"
	"strconv"
	"strings"
	"testing"
)

// calls are the layers that each layer's chapter lets it call.
var calls = map[string]string{
	"num":    "",
	"width":  "num",
	"shape":  "",
	"val":    "num width shape",
	"typed":  "num width shape val",
	"budget": "",
	"lex":    "num",
	"tree":   "num lex",
	"parse":  "lex tree",
	"print":  "lex tree parse",
	"text":   "num shape val lex",
	"scalar": "num",
	"spread": "shape val scalar",
	"mould":  "shape val",
	"seek":   "num shape val",
	"prim":   "scalar spread mould seek",
	"adverb": "val prim",
	"cost":   "budget",
	"base":   "val budget tree seek prim adverb cost",
	"frame":  "num val scalar",
	"plan":   "val budget tree scalar cost base frame",
	"loop":   "num width typed frame",
	"tier":   "val typed budget lex parse print text cost base frame plan loop",
	"script": "tier",
}

// exports are the names that the chapters of the layers that are built list, with the methods of their types.
var exports = map[string]string{
	"num":    "Add Cmp Div Int May Mod Mul Neg Of Sign Sub",
	"width":  "Add Fits Max Mul Next Of Sub",
	"shape":  "Items May Meet Offset Place Same Size",
	"val":    "All Int Ints Item Join Many May Same Scalar Vector Width",
	"typed":  "Pack Typed Typed.At Typed.Many Typed.May Typed.To Typed.Val",
	"budget": "Budget Budget.Can Budget.Pay New Sum Times",
	"lex":    "Adv Join Lex Literal Mark Num Number Sign Verb Word",
	"tree":   "Depth End Kids May Node Same Under",
	"parse":  "Parse Toks",
	"print":  "Canonical Print",
	"text":   "Read Text",
	"scalar": "Dyad Dyads Monad Monads Unit Whole",
	"spread": "Dyad Monad Ops",
	"mould":  "Drop Flip Iota Join Ravel Reshape Reverse Shape Take Tally",
	"seek":   "Amend Down Find Index Unique Up Where",
	"prim":   "Sign Sign.One Sign.Two Sign.Unit Verb",
	"adverb": "Both Each Outer Prior Reduce Scan",
	"cost":   "Call Loop Node Of Size",
}

const library = "bytes cmp container/heap errors iter maps math math/bits slices sort strconv strings sync sync/atomic unicode unicode/utf8"

// sources are a package's files, without its tests.
func sources(t *testing.T, name string) []*ast.File {
	t.Helper()
	paths, err := filepath.Glob(filepath.Join("..", name, "*.go"))
	if err != nil {
		t.Fatal(err)
	}
	var files []*ast.File
	for _, path := range paths {
		if strings.HasSuffix(path, "_test.go") {
			continue
		}
		f, err := parser.ParseFile(token.NewFileSet(), path, nil, 0)
		if err != nil {
			t.Fatal(err)
		}
		files = append(files, f)
	}
	if len(files) == 0 {
		t.Fatalf("package %s has no source", name)
	}
	return files
}

func allowed(layer, path string) bool {
	name, own := strings.CutPrefix(path, "reredos/")
	if !own {
		return slices.Contains(strings.Fields(library), path)
	}
	_, isLayer := calls[name]
	return !isLayer || slices.Contains(strings.Fields(calls[layer]), name)
}

func TestImports(t *testing.T) { // R6, and the language's library
	for layer := range calls {
		for _, f := range sources(t, layer) {
			for _, i := range f.Imports {
				path, err := strconv.Unquote(i.Path.Value)
				if err != nil || !allowed(layer, path) {
					t.Errorf("%s imports %s", layer, i.Path.Value)
				}
			}
		}
	}
}

// methods are the exported ones of a file's exported types, each behind its type.
func methods(f *ast.File) []string {
	var names []string
	for _, d := range f.Decls {
		m, ok := d.(*ast.FuncDecl)
		if !ok || m.Recv == nil || !m.Name.IsExported() {
			continue
		}
		of := m.Recv.List[0].Type
		if star, ok := of.(*ast.StarExpr); ok {
			of = star.X
		}
		if name, ok := of.(*ast.Ident); ok && name.IsExported() {
			names = append(names, name.Name+"."+m.Name.Name)
		}
	}
	return names
}

func TestExports(t *testing.T) { // R6: what a chapter doesn't list can't be called
	for layer, want := range exports {
		var names []string
		for _, f := range sources(t, layer) {
			for name := range f.Scope.Objects {
				if ast.IsExported(name) {
					names = append(names, name)
				}
			}
			names = append(names, methods(f)...)
		}
		slices.Sort(names)
		if got := strings.Join(names, " "); got != want {
			t.Errorf("%s exports %s", layer, got)
		}
	}
}

// count tells how many nodes of a package's sources are of a kind.
func count(t *testing.T, layer string, is func(ast.Node) bool) int {
	t.Helper()
	found := 0
	for _, f := range sources(t, layer) {
		ast.Inspect(f, func(n ast.Node) bool {
			if is(n) {
				found++
			}
			return true
		})
	}
	return found
}

func isEmbedded(n ast.Node) bool {
	s, ok := n.(*ast.StructType)
	return ok && slices.ContainsFunc(s.Fields.List, func(f *ast.Field) bool { return len(f.Names) == 0 })
}

func isArray(n ast.Node) bool {
	a, ok := n.(*ast.ArrayType)
	return ok && a.Len != nil
}

func isVariadic(n ast.Node) bool {
	f, ok := n.(*ast.FuncType)
	if !ok || len(f.Params.List) == 0 {
		return false
	}
	_, dots := f.Params.List[len(f.Params.List)-1].Type.(*ast.Ellipsis)
	return dots
}

// variadicCallOf knows a call of a layer's own variadic function, to which a list is handed.
func variadicCallOf(t *testing.T, layer string) func(ast.Node) bool {
	t.Helper()
	variadic := map[string]int{}
	for _, f := range sources(t, layer) {
		for _, d := range f.Decls {
			if m, ok := d.(*ast.FuncDecl); ok && m.Recv == nil && isVariadic(m.Type) {
				variadic[m.Name.Name]++
			}
		}
	}
	return func(n ast.Node) bool {
		c, ok := n.(*ast.CallExpr)
		if !ok || !c.Ellipsis.IsValid() {
			return false
		}
		name, ok := c.Fun.(*ast.Ident)
		return ok && variadic[name.Name] > 0
	}
}

func isLabelledLoop(n ast.Node) bool {
	l, ok := n.(*ast.LabeledStmt)
	if !ok {
		return false
	}
	switch l.Stmt.(type) {
	case *ast.ForStmt, *ast.RangeStmt:
		return true
	}
	return false
}

func isCopy(n ast.Node) bool {
	c, ok := n.(*ast.CallExpr)
	if !ok {
		return false
	}
	name, ok := c.Fun.(*ast.Ident)
	return ok && name.Name == "copy"
}

// isRangeOverInteger knows whole numbers that are written as such: figures, a length, and what is reckoned of some.
func isRangeOverInteger(n ast.Node) bool {
	r, ok := n.(*ast.RangeStmt)
	if !ok {
		return false
	}
	switch x := r.X.(type) {
	case *ast.BasicLit:
		return x.Kind == token.INT
	case *ast.CallExpr:
		name, ok := x.Fun.(*ast.Ident)
		return ok && name.Name == "len"
	case *ast.BinaryExpr:
		return x.Op == token.SUB || x.Op == token.MUL || x.Op == token.QUO
	}
	return false
}

// isClosure knows a function that uses what a function around it has declared.
func isClosure(n ast.Node) bool {
	f, ok := n.(*ast.FuncLit)
	if !ok {
		return false
	}
	closed := false
	ast.Inspect(f.Body, func(n ast.Node) bool {
		if name, ok := n.(*ast.Ident); ok && name.Obj != nil && name.Obj.Kind == ast.Var {
			closed = closed || name.Obj.Pos() < f.Pos() || name.Obj.Pos() > f.End()
		}
		return true
	})
	return closed
}

func isIota(n ast.Node) bool {
	name, ok := n.(*ast.Ident)
	return ok && name.Name == "iota"
}

// methodValueOf knows a layer's own method that is named, but not called, of a value.
func methodValueOf(t *testing.T, layer string) func(ast.Node) bool {
	t.Helper()
	methods, types, called := map[string]int{}, map[string]int{}, map[ast.Expr]int{}
	for _, f := range sources(t, layer) {
		for _, d := range f.Decls {
			if m, ok := d.(*ast.FuncDecl); ok && m.Recv != nil {
				methods[m.Name.Name]++
			}
		}
		for name, o := range f.Scope.Objects {
			if o.Kind == ast.Typ {
				types[name]++
			}
		}
	}
	return func(n ast.Node) bool {
		if c, ok := n.(*ast.CallExpr); ok { // it is gone through ahead of what it calls
			called[c.Fun]++
		}
		s, ok := n.(*ast.SelectorExpr)
		if !ok || methods[s.Sel.Name] == 0 || called[s] > 0 {
			return false
		}
		of, ok := s.X.(*ast.Ident)
		return ok && types[of.Name] == 0
	}
}

// isMapOf tells of a layer whether it writes out a map, all of whose values are of a kind.
func isMapOf(value func(ast.Node) bool) func(ast.Node) bool {
	return func(n ast.Node) bool {
		l, ok := n.(*ast.CompositeLit)
		if !ok {
			return false
		}
		_, ok = l.Type.(*ast.MapType)
		return ok && len(l.Elts) > 0 && !slices.ContainsFunc(l.Elts, func(e ast.Expr) bool {
			pair, ok := e.(*ast.KeyValueExpr)
			return !ok || !value(pair.Value)
		})
	}
}

// functionOf knows a function that is written out, or named: a layer's own one, or what a package beside it exports.
func functionOf(t *testing.T, layer string) func(ast.Node) bool {
	t.Helper()
	functions := objects(t, layer, ast.Fun)
	return func(n ast.Node) bool {
		switch x := n.(type) {
		case *ast.FuncLit:
			return true
		case *ast.Ident:
			return functions[x.Name] > 0
		case *ast.SelectorExpr:
			of, ok := x.X.(*ast.Ident)
			return ok && of.Obj == nil // a package has no object in the file
		}
		return false
	}
}

// constantOf knows what is written out, and names of a layer's own constants.
func constantOf(t *testing.T, layer string) func(ast.Node) bool {
	t.Helper()
	constants := objects(t, layer, ast.Con)
	return func(n ast.Node) bool {
		switch x := n.(type) {
		case *ast.BasicLit:
			return true
		case *ast.Ident:
			return constants[x.Name] > 0 || x.Name == "true" || x.Name == "false"
		}
		return false
	}
}

// objects are the names of a kind that a layer declares at package level.
func objects(t *testing.T, layer string, kind ast.ObjKind) map[string]int {
	t.Helper()
	names := map[string]int{}
	for _, f := range sources(t, layer) {
		for name, o := range f.Scope.Objects {
			if o.Kind == kind {
				names[name]++
			}
		}
	}
	return names
}

// isTableOf tells of a layer whether it writes out a list, an array or a map of three constants or more, or of rows of them.
func isTableOf(constant func(ast.Node) bool) func(ast.Node) bool {
	var fixed func(e ast.Expr) bool
	fixed = func(e ast.Expr) bool {
		if pair, ok := e.(*ast.KeyValueExpr); ok {
			e = pair.Value
		}
		row, ok := e.(*ast.CompositeLit)
		return constant(e) || ok && !slices.ContainsFunc(row.Elts, func(e ast.Expr) bool { return !fixed(e) })
	}
	return func(n ast.Node) bool {
		l, ok := n.(*ast.CompositeLit)
		if !ok || len(l.Elts) < 3 {
			return false
		}
		switch l.Type.(type) {
		case *ast.ArrayType, *ast.MapType:
			return fixed(l)
		}
		return false
	}
}

// methodExpressionOf knows a layer's own method that is named of a type.
func methodExpressionOf(t *testing.T, layer string) func(ast.Node) bool {
	t.Helper()
	methods := map[string]int{} // each behind its type
	for _, f := range sources(t, layer) {
		for _, d := range f.Decls {
			m, ok := d.(*ast.FuncDecl)
			if !ok || m.Recv == nil {
				continue
			}
			if of, ok := m.Recv.List[0].Type.(*ast.Ident); ok {
				methods[of.Name+"."+m.Name.Name]++
			}
		}
	}
	return func(n ast.Node) bool {
		s, ok := n.(*ast.SelectorExpr)
		if !ok {
			return false
		}
		of, ok := s.X.(*ast.Ident)
		return ok && methods[of.Name+"."+s.Sel.Name] > 0
	}
}

// isIterator knows the library's types of what can be ranged over.
func isIterator(e ast.Expr) bool {
	switch x := e.(type) {
	case *ast.IndexExpr:
		e = x.X
	case *ast.IndexListExpr:
		e = x.X
	}
	s, ok := e.(*ast.SelectorExpr)
	if !ok {
		return false
	}
	of, ok := s.X.(*ast.Ident)
	return ok && of.Name == "iter" && (s.Sel.Name == "Seq" || s.Sel.Name == "Seq2")
}

// rangeOverIteratorOf knows a loop over the iterator that a layer's own function tells.
func rangeOverIteratorOf(t *testing.T, layer string) func(ast.Node) bool {
	t.Helper()
	iterators := map[string]int{}
	for _, f := range sources(t, layer) {
		for _, d := range f.Decls {
			m, ok := d.(*ast.FuncDecl)
			if ok && m.Recv == nil && m.Type.Results.NumFields() == 1 && isIterator(m.Type.Results.List[0].Type) {
				iterators[m.Name.Name]++
			}
		}
	}
	return func(n ast.Node) bool {
		r, ok := n.(*ast.RangeStmt)
		if !ok {
			return false
		}
		c, ok := r.X.(*ast.CallExpr)
		if !ok {
			return false
		}
		name, ok := c.Fun.(*ast.Ident)
		return ok && iterators[name.Name] > 0
	}
}

// isGenericCut knows a function of type parameters that cuts with three indexes.
func isGenericCut(n ast.Node) bool {
	f, ok := n.(*ast.FuncDecl)
	if !ok || f.Type.TypeParams.NumFields() == 0 {
		return false
	}
	cuts := false
	ast.Inspect(f.Body, func(n ast.Node) bool {
		s, ok := n.(*ast.SliceExpr)
		cuts = cuts || ok && s.Slice3
		return true
	})
	return cuts
}

// isFromHeap knows what is taken of a heap of the library by a type assertion.
func isFromHeap(n ast.Node) bool {
	a, ok := n.(*ast.TypeAssertExpr)
	if !ok || a.Type == nil {
		return false
	}
	c, ok := a.X.(*ast.CallExpr)
	if !ok {
		return false
	}
	s, ok := c.Fun.(*ast.SelectorExpr)
	if !ok {
		return false
	}
	of, ok := s.X.(*ast.Ident)
	return ok && of.Obj == nil && of.Name == "heap" && s.Sel.Name == "Pop" // a package has no object in the file
}

// isMapOfPlaces knows a map of texts, each with a whole number.
func isMapOfPlaces(n ast.Node) bool {
	m, ok := n.(*ast.MapType)
	if !ok {
		return false
	}
	key, isName := m.Key.(*ast.Ident)
	value, alsoName := m.Value.(*ast.Ident)
	return isName && alsoName && key.Name == "string" && value.Name == "int"
}

func TestWays(t *testing.T) { // the document's section 'Ways'
	for _, c := range []struct {
		layer, way string
		is         func(ast.Node) bool
	}{
		{"num", "a number embeds its parts", isEmbedded},
		{"width", "widths stand in an array", isArray},
		{"width", "the greatest one is told by a variadic call", isVariadic},
		{"shape", "axes are gone through in a loop with a label", isLabelledLoop},
		{"val", "an item's elements are copied", isCopy},
		{"typed", "bytes are put together in a range over an integer", isRangeOverInteger},
		{"budget", "both parts are done alike by a method value", methodValueOf(t, "budget")},
		{"lex", "bytes are told apart in a loop with a label", isLabelledLoop},
		{"lex", "what ends a part is told by a closure", isClosure},
		{"lex", "kinds are told by iota", isIota},
		{"tree", "trees are put together by a variadic call", isVariadic},
		{"parse", "trees are put together by variadic calls", isVariadic},
		{"print", "nodes are printed through a map of method expressions", isMapOf(methodExpressionOf(t, "print"))},
		{"text", "texts of numbers are told by a closure", isClosure},
		{"scalar", "what signs do stands in a map of functions", isMapOf(functionOf(t, "scalar"))},
		{"scalar", "signs stand in a constant table", isTableOf(constantOf(t, "scalar"))},
		{"spread", "elements are paired by an iterator that is ranged over", rangeOverIteratorOf(t, "spread")},
		{"mould", "items are cut with three indexes, by a generic function", isGenericCut},
		{"seek", "places are ordered by a heap of the library, of which they are taken by a type assertion", isFromHeap},
		{"seek", "where elements are first stands in a map", isMapOfPlaces},
		{"prim", "what signs mean stands in maps", isMapOf(functionOf(t, "prim"))},
		{"prim", "a sign's own is a method value", methodValueOf(t, "prim")},
		{"adverb", "items are gone through by an iterator that is ranged over", rangeOverIteratorOf(t, "adverb")},
		{"cost", "sizes are told by a variadic call", variadicCallOf(t, "cost")},
	} {
		if count(t, c.layer, c.is) == 0 {
			t.Errorf("%s: not so that %s", c.layer, c.way)
		}
	}
}
