package lend

import (
	"go/ast"
	"go/parser"
	"go/token"
	"go/types"
	"testing"
)

// parsed: the package's one file, with what each of its expressions is.
func parsed(t *testing.T) (*ast.File, *types.Info) {
	t.Helper()
	set := token.NewFileSet()
	file, err := parser.ParseFile(set, "lend.go", nil, 0)
	if err != nil {
		t.Fatal(err)
	}
	info := &types.Info{Types: map[ast.Expr]types.TypeAndValue{}}
	if _, err := new(types.Config).Check("treenail/lend", set, []*ast.File{file}, info); err != nil {
		t.Fatal(err)
	}
	return file, info
}

// shifts: is a bit moved in it, as only who takes a number's bytes, or puts them together, does in a loop?
func shifts(n ast.Node) bool {
	found := false
	ast.Inspect(n, func(n ast.Node) bool {
		switch x := n.(type) {
		case *ast.BinaryExpr:
			found = found || x.Op == token.SHL || x.Op == token.SHR
		case *ast.AssignStmt:
			found = found || x.Tok == token.SHL_ASSIGN || x.Tok == token.SHR_ASSIGN
		}
		return !found
	})
	return found
}

func rangesInteger(x *ast.RangeStmt, info *types.Info) bool {
	basic, ok := info.Types[x.X].Type.Underlying().(*types.Basic)
	return ok && basic.Info()&types.IsInteger != 0
}

// TestNumbersBytesAreRangedOver: the document's section 'Ways' asks that a number's bytes are gone through by a range over an integer: both as they are written and as they are read.
func TestNumbersBytesAreRangedOver(t *testing.T) {
	file, info := parsed(t)
	ranges := 0
	ast.Inspect(file, func(n ast.Node) bool {
		switch x := n.(type) {
		case *ast.ForStmt:
			if shifts(x) {
				t.Errorf("a number's bytes are gone through by another loop than a range")
			}
		case *ast.RangeStmt:
			if shifts(x.Body) && rangesInteger(x, info) {
				ranges++
			} else if shifts(x.Body) {
				t.Errorf("a number's bytes are gone through by a range over no integer")
			}
		}
		return true
	})
	if ranges != 2 {
		t.Errorf("%d ranges over an integer go through a number's bytes, not two", ranges)
	}
}
