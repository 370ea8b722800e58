package table

import (
	"go/ast"
	"go/importer"
	"go/parser"
	"go/token"
	"go/types"
	"testing"
)

// parsed: the package's one file, with what each of its names and expressions is.
func parsed(t *testing.T) (*ast.File, *types.Info) {
	t.Helper()
	set := token.NewFileSet()
	file, err := parser.ParseFile(set, "table.go", nil, 0)
	if err != nil {
		t.Fatal(err)
	}
	info := &types.Info{Types: map[ast.Expr]types.TypeAndValue{}, Uses: map[*ast.Ident]types.Object{}}
	config := types.Config{Importer: importer.ForCompiler(set, "source", nil)}
	if _, err := config.Check("treenail/table", set, []*ast.File{file}, info); err != nil {
		t.Fatal(err)
	}
	return file, info
}

// TestMovedBlocksAreGoneThroughBackward: the document's section 'Ways' asks for a range over a function, backward: At finds a block's last spare by it, and by no other loop.
func TestMovedBlocksAreGoneThroughBackward(t *testing.T) {
	file, info := parsed(t)
	backward := 0
	ast.Inspect(method(t, file, "At"), func(n ast.Node) bool {
		switch x := n.(type) {
		case *ast.ForStmt:
			t.Error("At has a loop that is no range")
		case *ast.RangeStmt:
			if isFunction(x.X, info) && goesBackward(x.X, info) && named(x.X, "moved") {
				backward++
			} else {
				t.Error("At has another range")
			}
		}
		return true
	})
	if backward != 1 {
		t.Errorf("%d ranges over a function go through the moved blocks backward", backward)
	}
}

func method(t *testing.T, file *ast.File, name string) *ast.FuncDecl {
	t.Helper()
	for _, decl := range file.Decls {
		if f, ok := decl.(*ast.FuncDecl); ok && f.Recv != nil && f.Name.Name == name {
			return f
		}
	}
	t.Fatalf("no method %s", name)
	return nil
}

func isFunction(x ast.Expr, info *types.Info) bool {
	_, ok := info.Types[x].Type.Underlying().(*types.Signature)
	return ok
}

// goesBackward: is it what slices.Backward makes?
func goesBackward(x ast.Expr, info *types.Info) bool {
	call, ok := x.(*ast.CallExpr)
	if !ok {
		return false
	}
	of, ok := call.Fun.(*ast.SelectorExpr)
	if !ok {
		return false
	}
	f, ok := info.Uses[of.Sel].(*types.Func)
	return ok && f.FullName() == "slices.Backward"
}

func named(n ast.Node, name string) bool {
	found := false
	ast.Inspect(n, func(n ast.Node) bool {
		x, ok := n.(*ast.Ident)
		found = found || ok && x.Name == name
		return true
	})
	return found
}
