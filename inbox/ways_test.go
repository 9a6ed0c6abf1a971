package inbox_test

import (
	"go/ast"
	"go/parser"
	"go/token"
	"go/types"
	"testing"

	"chandler/inbox"
)

// TestWays holds what the document's section 'Ways' says of layer 8.
func TestWays(t *testing.T) {
	fset := token.NewFileSet()
	file, err := parser.ParseFile(fset, "inbox.go", nil, 0)
	if err != nil {
		t.Fatal(err)
	}
	// What is imported is of no matter here, so it isn't looked for.
	info := &types.Info{Types: map[ast.Expr]types.TypeAndValue{}}
	conf := types.Config{Error: func(error) {}}
	conf.Check("chandler/inbox", fset, []*ast.File{file}, info)
	if !fieldIsMapByStructs(file, info, "Inbox") {
		t.Errorf("what is remembered doesn't stand in a map whose keys are structs")
	}
	if asked, stored := usesOfMapsByStructs(file, info); !asked || !stored {
		t.Errorf("a map whose keys are structs: asked %v, stored into %v", asked, stored)
	}
	if !numberedByIota(file, "Verdict", "Fresh", "Known", "Stale") {
		t.Errorf("the verdicts aren't numbered by iota")
	}
	if inbox.Fresh != 0 || inbox.Known != 1 || inbox.Stale != 2 {
		t.Errorf("the verdicts are %d, %d, %d", inbox.Fresh, inbox.Known, inbox.Stale)
	}
}

func isMapByStructs(info *types.Info, e ast.Expr) bool {
	if info.Types[e].Type == nil {
		return false
	}
	m, ok := info.Types[e].Type.Underlying().(*types.Map)
	if !ok {
		return false
	}
	_, ok = m.Key().Underlying().(*types.Struct)
	return ok
}

// fieldIsMapByStructs tells whether the struct of that name has a field that is such a map.
func fieldIsMapByStructs(file *ast.File, info *types.Info, name string) bool {
	found := false
	ast.Inspect(file, func(n ast.Node) bool {
		spec, ok := n.(*ast.TypeSpec)
		if !ok || spec.Name.Name != name {
			return true
		}
		if fields, ok := spec.Type.(*ast.StructType); ok {
			for _, f := range fields.Fields.List {
				found = found || isMapByStructs(info, f.Type)
			}
		}
		return true
	})
	return found
}

// usesOfMapsByStructs tells whether such a map is asked somewhere, and stored into.
func usesOfMapsByStructs(file *ast.File, info *types.Info) (asked, stored bool) {
	targets := map[ast.Expr]bool{}
	ast.Inspect(file, func(n ast.Node) bool {
		switch x := n.(type) {
		case *ast.AssignStmt:
			for _, e := range x.Lhs {
				targets[e] = true
			}
		case *ast.IndexExpr:
			if isMapByStructs(info, x.X) {
				stored = stored || targets[x]
				asked = asked || !targets[x]
			}
		}
		return true
	})
	return asked, stored
}

// numberedByIota tells whether constants of these names, in this order, make up a group whose first one has the type and is iota, and whose others repeat it.
func numberedByIota(file *ast.File, kind string, names ...string) bool {
	found := false
	ast.Inspect(file, func(n ast.Node) bool {
		group, ok := n.(*ast.GenDecl)
		if !ok || group.Tok != token.CONST || len(group.Specs) != len(names) {
			return true
		}
		all := true
		for i, spec := range group.Specs {
			c := spec.(*ast.ValueSpec)
			all = all && len(c.Names) == 1 && c.Names[0].Name == names[i]
			if i == 0 {
				all = all && c.Type != nil && types.ExprString(c.Type) == kind && len(c.Values) == 1 && types.ExprString(c.Values[0]) == "iota"
			} else {
				all = all && c.Type == nil && len(c.Values) == 0
			}
		}
		found = found || all
		return true
	})
	return found
}
