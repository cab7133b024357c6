package direct_test

import (
	"go/ast"
	"go/parser"
	"go/token"
	"path/filepath"
	"slices"
	"strings"
	"testing"
)

// It is another program than machine: it calls nothing of it but Check, and nothing of other packages than api, arena and kinds.
func TestCalls(t *testing.T) {
	files, _ := filepath.Glob("*.go")
	asked := 0
	for _, name := range files {
		if strings.HasSuffix(name, "_test.go") {
			continue
		}
		f, err := parser.ParseFile(token.NewFileSet(), name, nil, 0)
		if err != nil {
			t.Fatal(err)
		}
		for _, x := range f.Imports {
			if x.Name != nil || !slices.Contains([]string{`"offshoot/api"`, `"offshoot/arena"`, `"offshoot/kinds"`, `"offshoot/machine"`}, x.Path.Value) {
				t.Errorf("%s imports %v %s", name, x.Name, x.Path.Value)
			}
		}
		ast.Inspect(f, func(x ast.Node) bool {
			s, is := x.(*ast.SelectorExpr)
			if !is {
				return true
			}
			if from, is := s.X.(*ast.Ident); is && from.Name == "machine" {
				asked++
				if s.Sel.Name != "Check" {
					t.Errorf("%s asks machine.%s", name, s.Sel.Name)
				}
			}
			return true
		})
	}
	if asked == 0 {
		t.Error("machine.Check is never asked")
	}
}
