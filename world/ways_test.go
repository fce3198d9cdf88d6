package world_test

import (
	"go/ast"
	"go/parser"
	"go/token"
	"go/types"
	"path/filepath"
	"reflect"
	"strings"
	"testing"

	"culvert/world"
)

// P23.9, Ways: each call of a world holds the lock from its first line to its last one. That hands never meet inside a call no run can show for sure: so the text is asked.
func TestEachCallHoldsTheLock(t *testing.T) {
	files, e := filepath.Glob("*.go")
	if e != nil {
		t.Fatal(e)
	}
	calls := 0
	for _, file := range files {
		if strings.HasSuffix(file, "_test.go") {
			continue
		}
		f, e := parser.ParseFile(token.NewFileSet(), file, nil, 0)
		if e != nil {
			t.Fatal(e)
		}
		for _, d := range f.Decls {
			x, ok := d.(*ast.FuncDecl)
			if !ok || x.Recv == nil || types.ExprString(x.Recv.List[0].Type) != "*World" {
				continue
			}
			calls++
			if !x.Name.IsExported() || len(x.Body.List) < 3 || !is(x.Body.List[0], "w.lock.Lock()") || !isDeferred(x.Body.List[1], "w.lock.Unlock()") {
				t.Errorf("%s does not begin with the lock", x.Name.Name)
			}
		}
	}
	if calls != 3 {
		t.Errorf("%d calls of a world", calls)
	}
}

func is(s ast.Stmt, text string) bool {
	x, ok := s.(*ast.ExprStmt)
	return ok && types.ExprString(x.X) == text
}

func isDeferred(s ast.Stmt, text string) bool {
	x, ok := s.(*ast.DeferStmt)
	return ok && types.ExprString(x.Call) == text
}

// A world's calls are those of the chapter: what its parts promote is no way past the lock.
func TestFace(t *testing.T) {
	w := reflect.TypeOf(&world.World{})
	var names []string
	for i := range w.NumMethod() {
		names = append(names, w.Method(i).Name)
	}
	if got := strings.Join(names, " "); got != "Durable Step Under" {
		t.Errorf("a world has the calls %s", got)
	}
	for i := range w.Elem().NumField() {
		if f := w.Elem().Field(i); f.IsExported() {
			t.Errorf("a world shows its field %s", f.Name)
		}
	}
}
