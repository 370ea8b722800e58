package sum

import (
	"go/ast"
	"go/constant"
	"go/parser"
	"go/token"
	"go/types"
	"testing"
)

// Ways: the table is an array, and parts come in through a variadic function. Another kind of either isn't built.
var (
	_ [256]uint32                    = Table{}
	_ func(*Table, ...string) uint32 = (*Table).Of
)

// parsed: the package's one file, with what each of its expressions is.
func parsed(t *testing.T) (*ast.File, *types.Info) {
	t.Helper()
	set := token.NewFileSet()
	file, err := parser.ParseFile(set, "sum.go", nil, 0)
	if err != nil {
		t.Fatal(err)
	}
	info := &types.Info{Types: map[ast.Expr]types.TypeAndValue{}}
	if _, err := new(types.Config).Check("treenail/sum", set, []*ast.File{file}, info); err != nil {
		t.Fatal(err)
	}
	return file, info
}

// countsSteps: is it a range over an integer, and eight of them, in which a step is made?
func countsSteps(x *ast.RangeStmt, info *types.Info) bool {
	told := info.Types[x.X].Value
	return told != nil && constant.Compare(told, token.EQL, constant.MakeInt64(8)) && callsOfStep(x.Body) == 1
}

func callsOfStep(n ast.Node) int {
	calls := 0
	ast.Inspect(n, func(n ast.Node) bool {
		if x, ok := n.(*ast.CallExpr); ok {
			if name, ok := x.Fun.(*ast.Ident); ok && name.Name == "step" {
				calls++
			}
		}
		return true
	})
	return calls
}

// TestStepsAreCountedByARange: the document's section 'Ways' asks that steps are counted by a range over an integer: one does, no step is made outside it, and there is no other kind of loop.
func TestStepsAreCountedByARange(t *testing.T) {
	file, info := parsed(t)
	ranges := 0
	ast.Inspect(file, func(n ast.Node) bool {
		switch x := n.(type) {
		case *ast.ForStmt:
			t.Error("a loop that is no range")
		case *ast.RangeStmt:
			if countsSteps(x, info) {
				ranges++
			}
		}
		return true
	})
	if calls := callsOfStep(file); ranges != 1 || calls != 1 {
		t.Errorf("%d ranges over eight steps, %d calls of step", ranges, calls)
	}
}
