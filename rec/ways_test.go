package rec

import (
	"go/ast"
	"go/parser"
	"go/token"
	"slices"
	"testing"

	"treenail/api"
)

// Ways: updates come in through a variadic function. Another kind isn't built.
var _ func(...Update) (string, api.Errno) = Text

func parsed(t *testing.T) *ast.File {
	t.Helper()
	file, err := parser.ParseFile(token.NewFileSet(), "rec.go", nil, 0)
	if err != nil {
		t.Fatal(err)
	}
	return file
}

// TestUpdatesAreGoneThroughAsTheyComeIn: the document's section 'Ways' asks that updates come in through a variadic function: it goes through them by itself, and no other one takes a list of them.
func TestUpdatesAreGoneThroughAsTheyComeIn(t *testing.T) {
	ranges := 0
	for _, decl := range parsed(t).Decls {
		f, ok := decl.(*ast.FuncDecl)
		if !ok {
			continue
		}
		for _, field := range f.Type.Params.List {
			switch field.Type.(type) {
			case *ast.ArrayType:
				t.Errorf("%s takes a list", f.Name.Name)
			case *ast.Ellipsis:
				ranges += rangesOver(f.Body, field.Names[0].Name)
			}
		}
	}
	if ranges != 1 {
		t.Errorf("%d ranges over what comes in", ranges)
	}
}

func rangesOver(n ast.Node, name string) int {
	ranges := 0
	ast.Inspect(n, func(n ast.Node) bool {
		if x, ok := n.(*ast.RangeStmt); ok {
			if over, ok := x.X.(*ast.Ident); ok && over.Name == name {
				ranges++
			}
		}
		return true
	})
	return ranges
}

// TestKindsAreNumberedByIota: the document's section 'Ways' asks for it.
func TestKindsAreNumberedByIota(t *testing.T) {
	want := []string{"Put", "Delete", "Add"}
	if !slices.ContainsFunc(namesBesideIota(parsed(t)), func(names []string) bool { return slices.Equal(names, want) }) {
		t.Errorf("%v aren't numbered by iota", want)
	}
}

// namesBesideIota: the names of each group of constants in whose first line iota stands, and in which no other line has a value of its own.
func namesBesideIota(file *ast.File) [][]string {
	var groups [][]string
	for _, decl := range file.Decls {
		group, ok := decl.(*ast.GenDecl)
		if !ok || group.Tok != token.CONST || !named(group.Specs[0], "iota") {
			continue
		}
		var names []string
		for k, spec := range group.Specs {
			line := spec.(*ast.ValueSpec)
			if k == 0 || len(line.Values) == 0 {
				names = append(names, line.Names[0].Name)
			}
		}
		groups = append(groups, names)
	}
	return groups
}

func named(n ast.Node, name string) bool {
	found := false
	ast.Inspect(n, func(n ast.Node) bool {
		x, ok := n.(*ast.Ident)
		found = found || ok && x.Name == name
		return true
	})
	return found
}
