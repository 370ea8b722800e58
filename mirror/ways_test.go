package mirror

import (
	"go/ast"
	"go/importer"
	"go/parser"
	"go/token"
	"go/types"
	"testing"
)

// Ways: bad places are keys of a map. Another kind isn't built.
var _ map[Place]struct{} = Mirror{}.bad

// parsed: the package's one file, with what each of its names and expressions is.
func parsed(t *testing.T) (*ast.File, *types.Info) {
	t.Helper()
	set := token.NewFileSet()
	file, err := parser.ParseFile(set, "mirror.go", nil, 0)
	if err != nil {
		t.Fatal(err)
	}
	info := &types.Info{Types: map[ast.Expr]types.TypeAndValue{}, Uses: map[*ast.Ident]types.Object{}}
	config := types.Config{Importer: importer.ForCompiler(set, "source", nil)}
	if _, err := config.Check("treenail/mirror", set, []*ast.File{file}, info); err != nil {
		t.Fatal(err)
	}
	return file, info
}

// TestBadPlacesAreDeletedFromTheirMap: the document's section 'Ways' asks for it; no place is kept elsewhere, and none is bad by a value of the map.
func TestBadPlacesAreDeletedFromTheirMap(t *testing.T) {
	file, info := parsed(t)
	deleted, maps := 0, 0
	ast.Inspect(file, func(n ast.Node) bool {
		switch x := n.(type) {
		case *ast.CallExpr:
			if name, ok := x.Fun.(*ast.Ident); ok && info.Uses[name] == types.Universe.Lookup("delete") && isBad(x.Args[0]) {
				deleted++
			}
		case *ast.StructType:
			for _, field := range x.Fields.List {
				if _, ok := field.Type.(*ast.MapType); ok {
					maps++
				}
			}
		}
		return true
	})
	if deleted != 1 || maps != 1 {
		t.Errorf("%d times a bad place is deleted, %d fields are maps", deleted, maps)
	}
}

func isBad(x ast.Expr) bool {
	of, ok := x.(*ast.SelectorExpr)
	return ok && of.Sel.Name == "bad"
}

// TestTheOrderIsToldByAClosure: the document's section 'Ways' asks for it: Bad has one, which holds two places against each other.
func TestTheOrderIsToldByAClosure(t *testing.T) {
	file, info := parsed(t)
	found := 0
	ast.Inspect(method(t, file, "Bad"), func(n ast.Node) bool {
		if f, ok := n.(*ast.FuncLit); ok && holdsPlaces(f, info) {
			found++
		}
		return true
	})
	if found != 1 {
		t.Errorf("%d closures of Bad tell the order", found)
	}
}

func holdsPlaces(f *ast.FuncLit, info *types.Info) bool {
	told, ok := info.Types[f].Type.(*types.Signature)
	if !ok || told.Params().Len() != 2 || told.Results().Len() != 1 {
		return false
	}
	for k := range 2 {
		if told.Params().At(k).Type().String() != "treenail/mirror.Place" {
			return false
		}
	}
	return told.Results().At(0).Type().String() == "int"
}

func method(t *testing.T, file *ast.File, name string) *ast.FuncDecl {
	t.Helper()
	for _, decl := range file.Decls {
		if f, ok := decl.(*ast.FuncDecl); ok && f.Recv != nil && f.Name.Name == name {
			return f
		}
	}
	t.Fatalf("no method %s", name)
	return nil
}
