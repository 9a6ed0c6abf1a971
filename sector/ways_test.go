package sector_test

import (
	"go/ast"
	"go/parser"
	"go/token"
	"go/types"
	"strings"
	"testing"
)

// TestWays holds what the document's section 'Ways' says of layer 1.
func TestWays(t *testing.T) {
	file, err := parser.ParseFile(token.NewFileSet(), "sector.go", nil, 0)
	if err != nil {
		t.Fatal(err)
	}
	fields := diskFields(file)
	for _, name := range []string{"writes", "reach", "left", "power"} {
		if !strings.HasPrefix(fields[name], "atomic.") {
			t.Errorf("the disk's %s is no atomic counter, but %q", name, fields[name])
		}
	}
	if fields["once"] != "sync.Once" {
		t.Errorf("the disk has no sync.Once, but %q", fields["once"])
	}
	if !asksOnceWithClosure(file) {
		t.Errorf("no closure is handed to the disk's sync.Once")
	}
}

// diskFields are the types of the disk's fields, by their names.
func diskFields(file *ast.File) map[string]string {
	fields := map[string]string{}
	ast.Inspect(file, func(n ast.Node) bool {
		spec, ok := n.(*ast.TypeSpec)
		if !ok || spec.Name.Name != "Disk" {
			return true
		}
		for _, f := range spec.Type.(*ast.StructType).Fields.List {
			for _, name := range f.Names {
				fields[name.Name] = types.ExprString(f.Type)
			}
		}
		return false
	})
	return fields
}

func asksOnceWithClosure(file *ast.File) bool {
	found := false
	ast.Inspect(file, func(n ast.Node) bool {
		call, ok := n.(*ast.CallExpr)
		if ok && types.ExprString(call.Fun) == "d.once.Do" && len(call.Args) == 1 {
			_, closure := call.Args[0].(*ast.FuncLit)
			found = found || closure
		}
		return true
	})
	return found
}
