package audit_test

import (
	"go/ast"
	"go/parser"
	"go/token"
	"go/types"
	"path/filepath"
	"strings"
	"testing"
)

// Ways: the regions are gone through by goroutines of their own, which are joined. That they are, no answer shows: so the text is asked.
func TestRegionsHaveGoroutines(t *testing.T) {
	files, e := filepath.Glob("*.go")
	if e != nil {
		t.Fatal(e)
	}
	begun, joined := 0, 0
	for _, file := range files {
		if strings.HasSuffix(file, "_test.go") {
			continue
		}
		f, e := parser.ParseFile(token.NewFileSet(), file, nil, 0)
		if e != nil {
			t.Fatal(e)
		}
		ast.Inspect(f, func(n ast.Node) bool {
			switch x := n.(type) {
			case *ast.GoStmt:
				begun++
			case *ast.CallExpr:
				if strings.HasSuffix(types.ExprString(x.Fun), ".Wait") {
					joined++
				}
			}
			return true
		})
	}
	if begun != 1 || joined != 1 {
		t.Errorf("%d go statements, %d joins", begun, joined)
	}
}
