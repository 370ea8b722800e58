package env

import (
	"go/ast"
	"go/importer"
	"go/parser"
	"go/token"
	"go/types"
	"slices"
	"testing"
)

// parsed: the package's one file, with what each of its names and expressions is.
func parsed(t *testing.T) (*ast.File, *types.Info) {
	t.Helper()
	set := token.NewFileSet()
	file, err := parser.ParseFile(set, "env.go", nil, 0)
	if err != nil {
		t.Fatal(err)
	}
	info := &types.Info{Types: map[ast.Expr]types.TypeAndValue{}, Uses: map[*ast.Ident]types.Object{}}
	config := types.Config{Importer: importer.ForCompiler(set, "source", nil)}
	if _, err := config.Check("treenail/env", set, []*ast.File{file}, info); err != nil {
		t.Fatal(err)
	}
	return file, info
}

// namesBesideIota: the names of each group of constants in whose first line iota stands, and in which no other line has a value of its own.
func namesBesideIota(file *ast.File) [][]string {
	var groups [][]string
	for _, decl := range file.Decls {
		group, ok := decl.(*ast.GenDecl)
		if !ok || group.Tok != token.CONST || !named(group.Specs[0], "iota") {
			continue
		}
		var names []string
		for k, spec := range group.Specs {
			line := spec.(*ast.ValueSpec)
			if k == 0 || len(line.Values) == 0 {
				names = append(names, line.Names[0].Name)
			}
		}
		groups = append(groups, names)
	}
	return groups
}

func named(n ast.Node, name string) bool {
	found := false
	ast.Inspect(n, func(n ast.Node) bool {
		x, ok := n.(*ast.Ident)
		found = found || ok && x.Name == name
		return true
	})
	return found
}

// TestKindsAreNumberedByIota: the document's section 'Ways' asks for it.
func TestKindsAreNumberedByIota(t *testing.T) {
	file, _ := parsed(t)
	want := []string{"Super", "Table", "Log", "Leaf", "Node"}
	if !slices.ContainsFunc(namesBesideIota(file), func(names []string) bool { return slices.Equal(names, want) }) {
		t.Errorf("%v aren't numbered by iota", want)
	}
}

// TestWhatIsKnownIsCompared: the document's section 'Ways' asks for a struct that is compared: Meets holds what is known of an image against its own, both whole, and no part of them alone.
func TestWhatIsKnownIsCompared(t *testing.T) {
	file, info := parsed(t)
	compared := 0
	ast.Inspect(method(t, file, "Meets"), func(n ast.Node) bool {
		switch x := n.(type) {
		case *ast.BinaryExpr:
			if (x.Op == token.EQL || x.Op == token.NEQ) && isPtr(x.X, info) && isPtr(x.Y, info) {
				compared++
			}
		case *ast.SelectorExpr:
			if isPtr(x.X, info) {
				t.Errorf("%s is looked at alone", x.Sel.Name)
			}
		}
		return true
	})
	if compared != 1 {
		t.Errorf("%d times what is known is compared", compared)
	}
}

func method(t *testing.T, file *ast.File, name string) *ast.FuncDecl {
	t.Helper()
	for _, decl := range file.Decls {
		if f, ok := decl.(*ast.FuncDecl); ok && f.Recv != nil && f.Name.Name == name {
			return f
		}
	}
	t.Fatalf("no method %s", name)
	return nil
}

func isPtr(x ast.Expr, info *types.Info) bool {
	told := info.Types[x].Type
	return told != nil && told.String() == "treenail/env.Ptr"
}
