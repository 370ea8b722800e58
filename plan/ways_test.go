package plan

import (
	"go/ast"
	"go/parser"
	"go/token"
	"slices"
	"strconv"
	"testing"

	"treenail/api"
)

// The chapter's type and functions, as it lists them. Another kind isn't built.
var (
	_ = struct {
		Fanout, Buffer, Leaf int
	}(Plan{})
	_ func(Plan) int                   = Plan.NodeBytes
	_ func(Plan) int                   = Plan.LeafBytes
	_ func(Plan, int) api.Errno        = Plan.Check
	_ func(Plan) int                   = Plan.Least
	_ func(int, int) (Plan, api.Errno) = Best
)

func parsed(t *testing.T) *ast.File {
	t.Helper()
	file, err := parser.ParseFile(token.NewFileSet(), "plan.go", nil, 0)
	if err != nil {
		t.Fatal(err)
	}
	return file
}

// TestTheLayersThatAreCalled: the document's map names them.
func TestTheLayersThatAreCalled(t *testing.T) {
	for _, x := range parsed(t).Imports {
		path, err := strconv.Unquote(x.Path.Value)
		if err != nil || !slices.Contains([]string{"treenail/api", "treenail/env"}, path) {
			t.Errorf("%s is imported", x.Path.Value)
		}
	}
}
