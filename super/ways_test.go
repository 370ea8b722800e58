package super

import (
	"go/ast"
	"go/parser"
	"go/token"
	"testing"

	"treenail/sum"
)

// Ways: images come in through a variadic function. Another kind isn't built.
var _ func(*sum.Table, ...string) (Block, bool) = Newest

// TestImagesAreGoneThroughAsTheyComeIn: the document's section 'Ways' asks that images come in through a variadic function: it goes through them by itself, and no other one takes a list of them.
func TestImagesAreGoneThroughAsTheyComeIn(t *testing.T) {
	file, err := parser.ParseFile(token.NewFileSet(), "super.go", nil, 0)
	if err != nil {
		t.Fatal(err)
	}
	ranges := 0
	for _, decl := range file.Decls {
		f, ok := decl.(*ast.FuncDecl)
		if !ok {
			continue
		}
		for _, field := range f.Type.Params.List {
			switch field.Type.(type) {
			case *ast.ArrayType:
				t.Errorf("%s takes a list", f.Name.Name)
			case *ast.Ellipsis:
				ranges += rangesOver(f.Body, field.Names[0].Name)
			}
		}
	}
	if ranges != 1 {
		t.Errorf("%d ranges over what comes in", ranges)
	}
}

func rangesOver(n ast.Node, name string) int {
	ranges := 0
	ast.Inspect(n, func(n ast.Node) bool {
		if x, ok := n.(*ast.RangeStmt); ok {
			if over, ok := x.X.(*ast.Ident); ok && over.Name == name {
				ranges++
			}
		}
		return true
	})
	return ranges
}
