package journal_test

import (
	"go/ast"
	"go/parser"
	"go/token"
	"go/types"
	"testing"
)

// TestWays holds what the document's section 'Ways' says of layer 3.
func TestWays(t *testing.T) {
	fset := token.NewFileSet()
	file, err := parser.ParseFile(fset, "journal.go", nil, 0)
	if err != nil {
		t.Fatal(err)
	}
	// The map is told by its type, whatever name it goes by; what is imported is of no matter here, so it isn't looked for.
	info := &types.Info{Types: map[ast.Expr]types.TypeAndValue{}}
	conf := types.Config{Error: func(error) {}}
	conf.Check("chandler/journal", fset, []*ast.File{file}, info)
	if !variadic(file, "Commit") {
		t.Errorf("the changes don't come in through a variadic function")
	}
	if !asksMapOfNumbers(file, info) {
		t.Errorf("numbers that were met don't stand in a map")
	}
}

// variadic tells whether the last parameter of the function of that name is such a one, and is gone through or handed on.
func variadic(file *ast.File, name string) bool {
	for _, d := range file.Decls {
		f, ok := d.(*ast.FuncDecl)
		if !ok || f.Name.Name != name {
			continue
		}
		last := f.Type.Params.List[len(f.Type.Params.List)-1]
		_, dots := last.Type.(*ast.Ellipsis)
		return dots && uses(f.Body, last.Names[0].Name)
	}
	return false
}

func uses(body *ast.BlockStmt, name string) bool {
	found := false
	ast.Inspect(body, func(n ast.Node) bool {
		id, ok := n.(*ast.Ident)
		found = found || ok && id.Name == name
		return true
	})
	return found
}

// asksMapOfNumbers tells whether a map whose keys are numbers is asked somewhere.
func asksMapOfNumbers(file *ast.File, info *types.Info) bool {
	found := false
	ast.Inspect(file, func(n ast.Node) bool {
		index, ok := n.(*ast.IndexExpr)
		if !ok || info.Types[index.X].Type == nil {
			return true
		}
		if m, ok := info.Types[index.X].Type.Underlying().(*types.Map); ok {
			key, basic := m.Key().Underlying().(*types.Basic)
			found = found || basic && key.Info()&types.IsInteger != 0
		}
		return true
	})
	return found
}
