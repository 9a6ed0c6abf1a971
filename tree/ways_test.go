package tree_test

import (
	"go/ast"
	"go/parser"
	"go/token"
	"go/types"
	"os"
	"strings"
	"testing"
)

// source is the package's own files, with what can be told of their types without those that are imported.
type source struct {
	files []*ast.File
	info  *types.Info
}

func parse(t *testing.T) source {
	t.Helper()
	entries, err := os.ReadDir(".")
	if err != nil {
		t.Fatal(err)
	}
	fset := token.NewFileSet()
	s := source{info: &types.Info{Types: map[ast.Expr]types.TypeAndValue{}, Selections: map[*ast.SelectorExpr]*types.Selection{}}}
	for _, entry := range entries {
		if !strings.HasSuffix(entry.Name(), ".go") || strings.HasSuffix(entry.Name(), "_test.go") {
			continue
		}
		file, err := parser.ParseFile(fset, entry.Name(), nil, 0)
		if err != nil {
			t.Fatal(err)
		}
		s.files = append(s.files, file)
	}
	conf := types.Config{Error: func(error) {}}
	conf.Check("chandler/tree", fset, s.files, s.info)
	return s
}

// each hands out all that stands in the files.
func (s source) each(look func(ast.Node)) {
	for _, file := range s.files {
		ast.Inspect(file, func(n ast.Node) bool {
			if n != nil {
				look(n)
			}
			return true
		})
	}
}

// TestWays holds what the document's section 'Ways' says of layer 5.
func TestWays(t *testing.T) {
	s := parse(t)
	embedded := s.embedded()
	shared := ""
	for name := range embedded["Tree"] {
		for holder := range embedded {
			if holder != "Tree" && embedded[holder][name] && s.usesPromoted("Tree") && s.usesPromoted(holder) {
				shared = name
			}
		}
	}
	if shared == "" {
		t.Errorf("nothing is embedded in the tree and in a change under way, with its promoted fields used: %v", embedded)
	}
	maps := s.nodeMaps()
	if !maps["Tree"] || len(maps) < 2 {
		t.Errorf("nodes don't stand in maps of the tree and of a change under way, but of %v", maps)
	}
	if !s.deletesNodes() {
		t.Errorf("no node is deleted from a map")
	}
	if !s.rangesOverNodes() {
		t.Errorf("no map of nodes is gone through by a range")
	}
	if !s.scanRangesOverClosure() {
		t.Errorf("Scan doesn't range over an iterator that is a closure")
	}
}

// embedded are the names of the structs that each struct has embedded.
func (s source) embedded() map[string]map[string]bool {
	found := map[string]map[string]bool{}
	s.each(func(n ast.Node) {
		spec, ok := n.(*ast.TypeSpec)
		if !ok {
			return
		}
		fields, ok := spec.Type.(*ast.StructType)
		if !ok {
			return
		}
		found[spec.Name.Name] = map[string]bool{}
		for _, f := range fields.Fields.List {
			if len(f.Names) == 0 {
				found[spec.Name.Name][types.ExprString(f.Type)] = true
			}
		}
	})
	return found
}

// usesPromoted tells whether a field is used somewhere that the struct of that name has from one that is embedded.
func (s source) usesPromoted(holder string) bool {
	for _, selection := range s.info.Selections {
		recv := selection.Recv()
		if p, ok := recv.(*types.Pointer); ok {
			recv = p.Elem()
		}
		named, ok := recv.(*types.Named)
		if ok && named.Obj().Name() == holder && selection.Kind() == types.FieldVal && len(selection.Index()) > 1 {
			return true
		}
	}
	return false
}

// nodeMaps are the structs that have a field that is a map of nodes.
func (s source) nodeMaps() map[string]bool {
	found := map[string]bool{}
	s.each(func(n ast.Node) {
		spec, ok := n.(*ast.TypeSpec)
		if !ok {
			return
		}
		ast.Inspect(spec, func(n ast.Node) bool {
			m, ok := n.(*ast.MapType)
			if ok && types.ExprString(m.Value) == "node.Node" {
				found[spec.Name.Name] = true
			}
			return true
		})
	})
	return found
}

// isNodes tells whether an expression is a field that is a map of nodes: all of them have that name.
func (s source) isNodes(e ast.Expr) bool {
	field, ok := e.(*ast.SelectorExpr)
	if !ok || field.Sel.Name != "nodes" || s.info.Types[e].Type == nil {
		return false
	}
	_, isMap := s.info.Types[e].Type.Underlying().(*types.Map)
	return isMap
}

func (s source) deletesNodes() bool {
	found := false
	s.each(func(n ast.Node) {
		call, ok := n.(*ast.CallExpr)
		found = found || ok && types.ExprString(call.Fun) == "delete" && s.isNodes(call.Args[0])
	})
	return found
}

func (s source) rangesOverNodes() bool {
	found := false
	s.each(func(n ast.Node) {
		loop, ok := n.(*ast.RangeStmt)
		found = found || ok && s.isNodes(loop.X)
	})
	return found
}

// function is the one of that name, a method or not.
func (s source) function(name string) *ast.FuncDecl {
	for _, file := range s.files {
		for _, d := range file.Decls {
			if f, ok := d.(*ast.FuncDecl); ok && f.Name.Name == name {
				return f
			}
		}
	}
	return nil
}

// scanRangesOverClosure tells whether Scan has a range over what a function of the package answers, and that answers a closure.
func (s source) scanRangesOverClosure() bool {
	found := false
	ast.Inspect(s.function("Scan"), func(n ast.Node) bool {
		loop, ok := n.(*ast.RangeStmt)
		if !ok {
			return true
		}
		call, ok := loop.X.(*ast.CallExpr)
		if !ok {
			return true
		}
		if method, ok := call.Fun.(*ast.SelectorExpr); ok {
			found = found || answersClosure(s.function(method.Sel.Name))
		}
		return true
	})
	return found
}

func answersClosure(f *ast.FuncDecl) bool {
	found := false
	if f == nil {
		return false
	}
	ast.Inspect(f, func(n ast.Node) bool {
		answer, ok := n.(*ast.ReturnStmt)
		if ok && len(answer.Results) == 1 {
			_, closure := answer.Results[0].(*ast.FuncLit)
			found = found || closure
		}
		return true
	})
	return found
}
