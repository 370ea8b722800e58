package dev

import (
	"go/ast"
	"go/importer"
	"go/parser"
	"go/token"
	"go/types"
	"slices"
	"testing"
)

// parsed: the package's one file, with what each of its names is.
func parsed(t *testing.T) (*ast.File, *types.Info) {
	t.Helper()
	set := token.NewFileSet()
	file, err := parser.ParseFile(set, "dev.go", nil, 0)
	if err != nil {
		t.Fatal(err)
	}
	info := &types.Info{Types: map[ast.Expr]types.TypeAndValue{}, Uses: map[*ast.Ident]types.Object{}}
	config := types.Config{Importer: importer.ForCompiler(set, "source", nil)}
	if _, err := config.Check("treenail/dev", set, []*ast.File{file}, info); err != nil {
		t.Fatal(err)
	}
	return file, info
}

// numbered: the names of each group of constants that begins with iota, and goes on by itself.
func numbered(file *ast.File) [][]string {
	var groups [][]string
	for _, decl := range file.Decls {
		group, ok := decl.(*ast.GenDecl)
		if !ok || group.Tok != token.CONST {
			continue
		}
		var names []string
		for k, spec := range group.Specs {
			line := spec.(*ast.ValueSpec)
			if k == 0 && !isIota(line) || k > 0 && len(line.Values) > 0 {
				names = nil
				break
			}
			names = append(names, line.Names[0].Name)
		}
		groups = append(groups, names)
	}
	return groups
}

func isIota(line *ast.ValueSpec) bool {
	if len(line.Values) != 1 {
		return false
	}
	name, ok := line.Values[0].(*ast.Ident)
	return ok && name.Name == "iota"
}

// TestFatesAndCountsAreNumberedByIota: the document's section 'Ways' asks for it; and what is counted is told by these numbers.
func TestFatesAndCountsAreNumberedByIota(t *testing.T) {
	file, _ := parsed(t)
	groups := numbered(file)
	for _, want := range [][]string{{"Drop", "Keep", "Tear"}, {"reads", "writes", "flushes", "counts"}} {
		if !slices.ContainsFunc(groups, func(names []string) bool { return slices.Equal(names, want) }) {
			t.Errorf("%v aren't numbered by iota", want)
		}
	}
	told := map[string]bool{}
	ast.Inspect(method(t, file, "Count"), func(n ast.Node) bool {
		if x, ok := n.(*ast.IndexExpr); ok {
			told[x.Index.(*ast.Ident).Name] = true
		}
		return true
	})
	if len(told) != 3 || !told["reads"] || !told["writes"] || !told["flushes"] {
		t.Errorf("Count tells the places %v", told)
	}
}

func method(t *testing.T, file *ast.File, name string) *ast.FuncDecl {
	t.Helper()
	for _, decl := range file.Decls {
		if f, ok := decl.(*ast.FuncDecl); ok && f.Recv != nil && f.Name.Name == name {
			return f
		}
	}
	t.Fatalf("no method %s", name)
	return nil
}

// TestWritesOfABadSectorAreToldByAClosure: the document's section 'Ways' asks for it: Stick has one, which asks of a write whether it is of the sector that Stick was handed.
func TestWritesOfABadSectorAreToldByAClosure(t *testing.T) {
	file, info := parsed(t)
	stick := method(t, file, "Stick")
	sector := stick.Type.Params.List[0].Names[0]
	found := 0
	ast.Inspect(stick, func(n ast.Node) bool {
		if f, ok := n.(*ast.FuncLit); ok && tellsWrites(f, info) && asks(f, info, sector) {
			found++
		}
		return true
	})
	if found != 1 {
		t.Errorf("%d closures of Stick tell writes", found)
	}
}

func tellsWrites(f *ast.FuncLit, info *types.Info) bool {
	told, ok := info.Types[f].Type.(*types.Signature)
	if !ok || told.Params().Len() != 1 || told.Results().Len() != 1 {
		return false
	}
	return told.Params().At(0).Type().String() == "treenail/dev.write" && told.Results().At(0).Type().String() == "bool"
}

// asks: does a name that stands outside of the closure stand in it, too, so that it is one?
func asks(f *ast.FuncLit, info *types.Info, name *ast.Ident) bool {
	found := false
	ast.Inspect(f, func(n ast.Node) bool {
		if x, ok := n.(*ast.Ident); ok {
			o := info.Uses[x]
			found = found || o != nil && o.Pos() == name.Pos()
		}
		return true
	})
	return found
}
