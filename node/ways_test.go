package node_test

import (
	"go/ast"
	"go/parser"
	"go/token"
	"go/types"
	"path/filepath"
	"strings"
	"testing"
)

// P20.8, Ways: each call of a node holds the lock from its first line to its last one. That hands never meet inside a call no run can show for sure: so the text is asked.
func TestEachCallHoldsTheLock(t *testing.T) {
	files, e := filepath.Glob("*.go")
	if e != nil {
		t.Fatal(e)
	}
	calls := 0
	for _, file := range files {
		if strings.HasSuffix(file, "_test.go") {
			continue
		}
		f, e := parser.ParseFile(token.NewFileSet(), file, nil, 0)
		if e != nil {
			t.Fatal(e)
		}
		for _, d := range f.Decls {
			x, ok := d.(*ast.FuncDecl)
			if !ok || !x.Name.IsExported() || x.Recv == nil || types.ExprString(x.Recv.List[0].Type) != "*Node" {
				continue
			}
			calls++
			if len(x.Body.List) < 3 || !locks(x.Body.List[0]) || !unlocksAtTheEnd(x.Body.List[1]) {
				t.Errorf("%s does not begin with the lock", x.Name.Name)
			}
		}
	}
	if calls != 11 {
		t.Errorf("%d calls of a node", calls)
	}
}

func locks(s ast.Stmt) bool {
	x, ok := s.(*ast.ExprStmt)
	return ok && types.ExprString(x.X) == "n.lock.Lock()"
}

func unlocksAtTheEnd(s ast.Stmt) bool {
	x, ok := s.(*ast.DeferStmt)
	return ok && types.ExprString(x.Call) == "n.lock.Unlock()"
}
