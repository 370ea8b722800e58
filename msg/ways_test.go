package msg

import (
	"go/ast"
	"go/parser"
	"go/token"
	"slices"
	"strconv"
	"testing"

	"treenail/rec"
)

// Ways: updates come in through a variadic function. Another kind isn't built.
var _ func(string, bool, ...rec.Update) (string, bool) = All

func parsed(t *testing.T) *ast.File {
	t.Helper()
	file, err := parser.ParseFile(token.NewFileSet(), "msg.go", nil, 0)
	if err != nil {
		t.Fatal(err)
	}
	return file
}

// TestUpdatesAreGoneThroughAsTheyComeIn: the document's section 'Ways' asks that updates come in through a variadic function: it goes through them by itself, and no other one takes a list of them.
func TestUpdatesAreGoneThroughAsTheyComeIn(t *testing.T) {
	ranges := 0
	for _, decl := range parsed(t).Decls {
		f, ok := decl.(*ast.FuncDecl)
		if !ok {
			continue
		}
		for _, field := range f.Type.Params.List {
			switch field.Type.(type) {
			case *ast.ArrayType:
				t.Errorf("%s takes a list", f.Name.Name)
			case *ast.Ellipsis:
				ranges += rangesOver(f.Body, field.Names[0].Name)
			}
		}
	}
	if ranges != 1 {
		t.Errorf("%d ranges over what comes in", ranges)
	}
}

func rangesOver(n ast.Node, name string) int {
	ranges := 0
	ast.Inspect(n, func(n ast.Node) bool {
		if x, ok := n.(*ast.RangeStmt); ok {
			if over, ok := x.X.(*ast.Ident); ok && over.Name == name {
				ranges++
			}
		}
		return true
	})
	return ranges
}

// TestTheLayersThatAreCalled: the document's map names them.
func TestTheLayersThatAreCalled(t *testing.T) {
	for _, x := range parsed(t).Imports {
		path, err := strconv.Unquote(x.Path.Value)
		if err != nil || !slices.Contains([]string{"treenail/lend", "treenail/rec"}, path) {
			t.Errorf("%s is imported", x.Path.Value)
		}
	}
}
