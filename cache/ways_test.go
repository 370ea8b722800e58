package cache

import (
	"container/heap"
	"go/ast"
	"go/importer"
	"go/parser"
	"go/token"
	"go/types"
	"slices"
	"testing"
)

// Ways: slots stand in a map, and their order is a heap. Another kind isn't built.
var (
	_ map[int]*slot  = Cache{}.slots
	_ order          = Cache{}.order
	_ heap.Interface = &order{}
)

// parsed: the package's one file, with what each of its names and expressions is.
func parsed(t *testing.T) (*ast.File, *types.Info) {
	t.Helper()
	set := token.NewFileSet()
	file, err := parser.ParseFile(set, "cache.go", nil, 0)
	if err != nil {
		t.Fatal(err)
	}
	info := &types.Info{Types: map[ast.Expr]types.TypeAndValue{}, Uses: map[*ast.Ident]types.Object{}}
	config := types.Config{Importer: importer.ForCompiler(set, "source", nil)}
	if _, err := config.Check("treenail/cache", set, []*ast.File{file}, info); err != nil {
		t.Fatal(err)
	}
	return file, info
}

// TestSlotsAreDeletedFromTheirMap: the document's section 'Ways' asks for it; they stand in no other map.
func TestSlotsAreDeletedFromTheirMap(t *testing.T) {
	file, info := parsed(t)
	deleted, maps := 0, 0
	ast.Inspect(file, func(n ast.Node) bool {
		switch x := n.(type) {
		case *ast.CallExpr:
			if name, ok := x.Fun.(*ast.Ident); ok && info.Uses[name] == types.Universe.Lookup("delete") && isField(x.Args[0], "slots") {
				deleted++
			}
		case *ast.StructType:
			for _, field := range x.Fields.List {
				if _, ok := field.Type.(*ast.MapType); ok {
					maps++
				}
			}
		}
		return true
	})
	if deleted != 1 || maps != 1 {
		t.Errorf("%d times a slot is deleted, %d fields are maps", deleted, maps)
	}
}

func isField(x ast.Expr, name string) bool {
	of, ok := x.(*ast.SelectorExpr)
	return ok && of.Sel.Name == name
}

// TestTheOrderIsAHeap: the document's section 'Ways' asks for one of package container/heap: it is what puts slots in order, takes them out of it, and mends it behind a use.
func TestTheOrderIsAHeap(t *testing.T) {
	file, info := parsed(t)
	for name, calls := range map[string][]string{"Get": {"container/heap.Fix"}, "Put": {"container/heap.Push"}, "Drop": {"container/heap.Remove"}} {
		if told := heapCalls(method(t, file, name), info); !slices.Equal(told, calls) {
			t.Errorf("%s calls %v, not %v", name, told, calls)
		}
	}
}

// heapCalls: those of the package's functions that a node calls on the cache's order.
func heapCalls(n ast.Node, info *types.Info) []string {
	var names []string
	ast.Inspect(n, func(n ast.Node) bool {
		call, ok := n.(*ast.CallExpr)
		if !ok {
			return true
		}
		of, ok := call.Fun.(*ast.SelectorExpr)
		if !ok {
			return true
		}
		f, ok := info.Uses[of.Sel].(*types.Func)
		if !ok || f.Pkg() == nil || f.Pkg().Path() != "container/heap" {
			return true
		}
		if on, ok := call.Args[0].(*ast.UnaryExpr); ok && on.Op == token.AND && isField(on.X, "order") {
			names = append(names, f.FullName())
		}
		return true
	})
	return names
}

// TestSlotsGoIntoTheHeapByATypeAssertion: the document's section 'Ways' asks for it: Push has the one of the package, of what comes in to it.
func TestSlotsGoIntoTheHeapByATypeAssertion(t *testing.T) {
	file, info := parsed(t)
	push := method(t, file, "Push")
	if all, own := assertions(file), assertions(push); len(all) != 1 || len(own) != 1 {
		t.Fatalf("the package has %d assertions, Push %d of them", len(all), len(own))
	}
	asserted := assertions(push)[0]
	if of, ok := asserted.X.(*ast.Ident); !ok || of.Name != push.Type.Params.List[0].Names[0].Name {
		t.Error("what is asserted isn't what comes in")
	}
	if told := info.Types[asserted.Type].Type.String(); told != "*treenail/cache.slot" {
		t.Errorf("a %s comes in", told)
	}
}

func assertions(n ast.Node) []*ast.TypeAssertExpr {
	var found []*ast.TypeAssertExpr
	ast.Inspect(n, func(n ast.Node) bool {
		if x, ok := n.(*ast.TypeAssertExpr); ok {
			found = append(found, x)
		}
		return true
	})
	return found
}

func method(t *testing.T, file *ast.File, name string) *ast.FuncDecl {
	t.Helper()
	for _, decl := range file.Decls {
		if f, ok := decl.(*ast.FuncDecl); ok && f.Recv != nil && f.Name.Name == name {
			return f
		}
	}
	t.Fatalf("no method %s", name)
	return nil
}
