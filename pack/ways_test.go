package pack_test

import (
	"go/ast"
	"go/parser"
	"go/token"
	"go/types"
	"testing"
)

// TestWays holds what the document's section 'Ways' says of layer 2: the ordered form is built in an array.
func TestWays(t *testing.T) {
	file, err := parser.ParseFile(token.NewFileSet(), "pack.go", nil, 0)
	if err != nil {
		t.Fatal(err)
	}
	for _, d := range file.Decls {
		f, ok := d.(*ast.FuncDecl)
		if ok && f.Name.Name == "Ordered" && answersArray(f) {
			return
		}
	}
	t.Errorf("the ordered form isn't built in an array")
}

// answersArray tells whether the function makes its answer of a piece of an array of its own.
func answersArray(f *ast.FuncDecl) bool {
	arrays, answered := map[string]bool{}, false
	ast.Inspect(f, func(n ast.Node) bool {
		switch x := n.(type) {
		case *ast.ValueSpec:
			if a, ok := x.Type.(*ast.ArrayType); ok && a.Len != nil {
				arrays[x.Names[0].Name] = true
			}
		case *ast.ReturnStmt:
			ast.Inspect(x, func(n ast.Node) bool {
				s, ok := n.(*ast.SliceExpr)
				answered = answered || ok && arrays[types.ExprString(s.X)]
				return true
			})
		}
		return true
	})
	return answered
}
