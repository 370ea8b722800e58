package wal

import (
	"go/ast"
	"go/importer"
	"go/parser"
	"go/token"
	"go/types"
	"slices"
	"strconv"
	"testing"

	"treenail/api"
	"treenail/rec"
)

// Ways: updates come in through a variadic function. Another kind isn't built.
var _ func(*Log, ...rec.Update) api.Errno = (*Log).Append

// parsed: the package's one file, with what each of its names and expressions is.
func parsed(t *testing.T) (*ast.File, *types.Info) {
	t.Helper()
	set := token.NewFileSet()
	file, err := parser.ParseFile(set, "wal.go", nil, 0)
	if err != nil {
		t.Fatal(err)
	}
	info := &types.Info{Types: map[ast.Expr]types.TypeAndValue{}}
	config := types.Config{Importer: importer.ForCompiler(set, "source", nil)}
	if _, err := config.Check("treenail/wal", set, []*ast.File{file}, info); err != nil {
		t.Fatal(err)
	}
	return file, info
}

func typeOf(x ast.Expr, info *types.Info) string {
	if told := info.Types[x].Type; told != nil {
		return told.String()
	}
	return ""
}

// TestWhatAnImageSaysOfItselfIsCompared: the document's section 'Ways' asks for a struct that is compared: the head is held against another one as a whole, once, and none of its parts is looked at.
func TestWhatAnImageSaysOfItselfIsCompared(t *testing.T) {
	const head = "treenail/env.Head"
	file, info := parsed(t)
	compared := 0
	ast.Inspect(file, func(n ast.Node) bool {
		switch x := n.(type) {
		case *ast.BinaryExpr:
			if (x.Op == token.EQL || x.Op == token.NEQ) && typeOf(x.X, info) == head && typeOf(x.Y, info) == head {
				compared++
			}
		case *ast.SelectorExpr:
			if typeOf(x.X, info) == head {
				t.Errorf("the %s of a head is looked at", x.Sel.Name)
			}
		}
		return true
	})
	if compared != 1 {
		t.Errorf("%d times heads are held against each other", compared)
	}
}

// TestUpdatesComeInThroughAVariadicFunction: the document's section 'Ways' asks for it, and no other function takes a list of them.
func TestUpdatesComeInThroughAVariadicFunction(t *testing.T) {
	file, info := parsed(t)
	var variadic []string
	for _, decl := range file.Decls {
		f, ok := decl.(*ast.FuncDecl)
		if !ok {
			continue
		}
		for _, field := range f.Type.Params.List {
			switch x := field.Type.(type) {
			case *ast.Ellipsis:
				if typeOf(x.Elt, info) == "treenail/rec.Update" {
					variadic = append(variadic, f.Name.Name)
				}
			case *ast.ArrayType:
				t.Errorf("%s takes a list", f.Name.Name)
			}
		}
	}
	if !slices.Equal(variadic, []string{"Append"}) {
		t.Errorf("updates come into %v", variadic)
	}
}

// TestTheLayersThatAreCalled: the document's map names them.
func TestTheLayersThatAreCalled(t *testing.T) {
	file, _ := parsed(t)
	for _, x := range file.Imports {
		path, err := strconv.Unquote(x.Path.Value)
		if err != nil || !slices.Contains([]string{"math", "treenail/api", "treenail/env", "treenail/mirror", "treenail/rec", "treenail/sum"}, path) {
			t.Errorf("%s is imported", x.Path.Value)
		}
	}
}
