package node

import (
	"go/ast"
	"go/parser"
	"go/token"
	"slices"
	"strconv"
	"testing"

	"treenail/api"
	"treenail/buf"
	"treenail/env"
)

// The chapter's types and functions, as it lists them. Another kind isn't built.
var (
	_ = struct {
		Low string
		Ptr env.Ptr
	}(Child{})
	_ = struct {
		Children []Child
		Buffer   buf.Buffer
	}(Node{})
	_ func(Node) bool                  = Node.Right
	_ func(Node, string) int           = Node.Child
	_ func(Node, int) (string, string) = Node.Range
	_ func(Node) (string, api.Errno)   = Node.Text
	_ func(string) (Node, api.Errno)   = Parse
)

func parsed(t *testing.T) *ast.File {
	t.Helper()
	file, err := parser.ParseFile(token.NewFileSet(), "node.go", nil, 0)
	if err != nil {
		t.Fatal(err)
	}
	return file
}

// TestTheLayersThatAreCalled: the document's map names them.
func TestTheLayersThatAreCalled(t *testing.T) {
	for _, x := range parsed(t).Imports {
		path, err := strconv.Unquote(x.Path.Value)
		if err != nil || !slices.Contains([]string{"slices", "treenail/api", "treenail/buf", "treenail/env", "treenail/lend"}, path) {
			t.Errorf("%s is imported", x.Path.Value)
		}
	}
}
