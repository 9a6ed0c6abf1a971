package rows_test

import (
	"go/ast"
	"go/parser"
	"go/token"
	"go/types"
	"testing"

	"chandler/rows"
)

// TestWays holds what the document's section 'Ways' says of layer 6: the kinds of columns are numbered by iota.
func TestWays(t *testing.T) {
	file, err := parser.ParseFile(token.NewFileSet(), "rows.go", nil, 0)
	if err != nil {
		t.Fatal(err)
	}
	if !numberedByIota(file, "Kind", "Int", "Text") {
		t.Errorf("the kinds aren't numbered by iota")
	}
	if rows.Int != 0 || rows.Text != 1 {
		t.Errorf("the kinds are %d and %d", rows.Int, rows.Text)
	}
}

// numberedByIota tells whether constants of these names, in this order, begin a group whose first one has the type and is iota, and whose others repeat it.
func numberedByIota(file *ast.File, kind string, names ...string) bool {
	found := false
	ast.Inspect(file, func(n ast.Node) bool {
		group, ok := n.(*ast.GenDecl)
		if !ok || group.Tok != token.CONST || len(group.Specs) != len(names) {
			return true
		}
		all := true
		for i, spec := range group.Specs {
			c := spec.(*ast.ValueSpec)
			all = all && len(c.Names) == 1 && c.Names[0].Name == names[i]
			if i == 0 {
				all = all && c.Type != nil && types.ExprString(c.Type) == kind && len(c.Values) == 1 && types.ExprString(c.Values[0]) == "iota"
			} else {
				all = all && c.Type == nil && len(c.Values) == 0
			}
		}
		found = found || all
		return true
	})
	return found
}
