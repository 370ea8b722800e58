package leaf

import (
	"go/ast"
	"go/parser"
	"go/token"
	"slices"
	"strconv"
	"testing"

	"treenail/api"
	"treenail/rec"
)

// Updates come in through a variadic function, and entries do. Another kind isn't built.
var (
	_ func(Leaf, ...rec.Update) Leaf   = Leaf.On
	_ func(...Entry) (Leaf, api.Errno) = Of
)

func parsed(t *testing.T) *ast.File {
	t.Helper()
	file, err := parser.ParseFile(token.NewFileSet(), "leaf.go", nil, 0)
	if err != nil {
		t.Fatal(err)
	}
	return file
}

// closures: how many of them, that tell by a Key, a function has.
func closures(f *ast.FuncDecl) int {
	count := 0
	ast.Inspect(f, func(n ast.Node) bool {
		if x, ok := n.(*ast.FuncLit); ok && names(x)["Key"] {
			count++
		}
		return true
	})
	return count
}

func names(n ast.Node) map[string]bool {
	found := map[string]bool{}
	ast.Inspect(n, func(n ast.Node) bool {
		if x, ok := n.(*ast.Ident); ok {
			found[x.Name] = true
		}
		return true
	})
	return found
}

func loops(n ast.Node) int {
	count := 0
	ast.Inspect(n, func(n ast.Node) bool {
		switch n.(type) {
		case *ast.ForStmt, *ast.RangeStmt:
			count++
		}
		return true
	})
	return count
}

func functions(t *testing.T) map[string]*ast.FuncDecl {
	all := map[string]*ast.FuncDecl{}
	for _, decl := range parsed(t).Decls {
		if f, ok := decl.(*ast.FuncDecl); ok {
			all[f.Name.Name] = f
		}
	}
	return all
}

// reached: the functions of this package that one names, itself or by others.
func reached(all map[string]*ast.FuncDecl, name string, seen map[string]bool) map[string]bool {
	seen[name] = true
	for other := range names(all[name].Body) {
		if all[other] != nil && !seen[other] {
			reached(all, other, seen)
		}
	}
	return seen
}

// TestPlacesAreFoundByAClosure: the document's section 'Ways' asks that a key's place is found by a closure: those that need it reach one, and go through no entries themselves; On goes through the updates.
func TestPlacesAreFoundByAClosure(t *testing.T) {
	all := functions(t)
	for name, most := range map[string]int{"Get": 0, "On": 1} {
		found, gone := 0, 0
		for other := range reached(all, name, map[string]bool{}) {
			found += closures(all[other])
			gone += loops(all[other])
		}
		if found != 1 {
			t.Errorf("%s finds a key's place by %d closures", name, found)
		}
		if gone > most {
			t.Errorf("%s goes through %d lists", name, gone)
		}
	}
}

// TestTheLayersThatAreCalled: the document's map names them.
func TestTheLayersThatAreCalled(t *testing.T) {
	for _, x := range parsed(t).Imports {
		path, err := strconv.Unquote(x.Path.Value)
		if err != nil || !slices.Contains([]string{"slices", "sort", "treenail/api", "treenail/lend", "treenail/msg", "treenail/rec"}, path) {
			t.Errorf("%s is imported", x.Path.Value)
		}
	}
}
