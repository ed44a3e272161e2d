package rules

import (
	"go/ast"
	"go/importer"
	"go/token"
	"go/types"
	"strings"
	"testing"
)

// leansOn is which of the language's ways each layer that is built leans on.
func leansOn() map[string][]string {
	return map[string][]string{
		"mem":     {"clear", "copy", "range over an integer"},
		"code":    {"range over an array", "iota", "variadic", "closure"},
		"machine": {"iota", "array", "variadic", "map"},
		"lexis":   {"closure", "array", "range over an array"},
		"tree":    {"embedding", "promoted method", "generic function", "defer"},
		"parse":   {"panic", "recover", "defer", "generic function", "method value"},
		"kinds":   {"range over a function", "map", "compared structs", "array", "closure"},
		"check":   {"defer", "panic", "recover", "variadic"},
		"mir":     {"variadic closure"},
		"build":   {"map", "closure", "array"},
		"graph":   {"generic type", "generic function", "closure", "range over a function", "embedding", "promoted method", "map"},
		"moves":   {"variadic", "closure"},
		"alive":   {"variadic", "three indices", "range over an integer"},
		"loans":   {"range over a function", "copy", "clear", "map"},
		"borrows": {"iota", "closure", "map", "variadic"},
		"pins":    {"map", "closure"},
	}
}

// typer knows the types of all packages that were read.
type typer struct {
	reader
	info    *types.Info
	library types.Importer
	done    map[string]*types.Package
}

func typesOf(r reader) typer {
	info := &types.Info{
		Types:      map[ast.Expr]types.TypeAndValue{},
		Uses:       map[*ast.Ident]types.Object{},
		Selections: map[*ast.SelectorExpr]*types.Selection{},
	}
	return typer{r, info, importer.ForCompiler(r.set, "source", nil), map[string]*types.Package{}}
}

// Import is the package of a path: one of the project as it was read.
func (y typer) Import(path string) (*types.Package, error) {
	name, ours := strings.CutPrefix(path, "cocoon/")
	if !ours {
		return y.library.Import(path)
	}
	if p := y.done[name]; p != nil {
		return p, nil
	}
	var files []*ast.File
	for _, f := range y.packs[name] {
		files = append(files, f.tree)
	}
	c := types.Config{Importer: y}
	p, err := c.Check(path, y.set, files, y.info)
	y.done[name] = p
	return p, err
}

// ways are those that a piece of code has.
func (y typer) ways(n ast.Node) map[string]int {
	got := map[string]int{}
	called := map[ast.Expr]bool{}
	ast.Inspect(n, func(n ast.Node) bool {
		switch x := n.(type) {
		case *ast.CallExpr:
			called[ast.Unparen(x.Fun)] = true
		case *ast.Ident:
			if b, ok := y.info.Uses[x].(*types.Builtin); ok {
				got[b.Name()]++
			}
			if o := y.info.Uses[x]; o != nil && o.Pkg() == nil && o.Name() == "iota" {
				got["iota"]++
			}
		case *ast.BinaryExpr:
			if x.Op == token.EQL || x.Op == token.NEQ {
				got["compared "+y.compared(x.X)]++
			}
		case *ast.RangeStmt:
			got["range over "+y.ranged(x.X)]++
		case *ast.SliceExpr:
			if x.Slice3 {
				got["three indices"]++
			}
		case *ast.Ellipsis:
			if x.Elt != nil { // not that of an array
				got["variadic"]++
			}
		case *ast.FuncLit:
			got["closure"]++
			if y.info.Types[x].Type.(*types.Signature).Variadic() {
				got["variadic closure"]++
			}
		case *ast.FuncDecl:
			if x.Type.TypeParams != nil {
				got["generic function"]++
			}
		case *ast.TypeSpec:
			if x.TypeParams != nil {
				got["generic type"]++
			}
		case *ast.DeferStmt:
			got["defer"]++
		case *ast.StructType:
			for _, f := range x.Fields.List {
				if len(f.Names) == 0 {
					got["embedding"]++
				}
			}
		case *ast.SelectorExpr:
			if s := y.info.Selections[x]; s != nil && s.Kind() == types.MethodVal {
				if len(s.Index()) > 1 {
					got["promoted method"]++
				}
				if !called[x] {
					got["method value"]++
				}
			}
		case *ast.MapType:
			got["map"]++
		case *ast.ArrayType:
			if x.Len != nil { // it is no slice
				got["array"]++
			}
		}
		return true
	})
	return got
}

// ranged tells what something that is ranged over is.
func (y typer) ranged(x ast.Expr) string {
	switch t := y.info.Types[x].Type.Underlying().(type) {
	case *types.Array:
		return "an array"
	case *types.Basic:
		if t.Info()&types.IsInteger != 0 {
			return "an integer"
		}
	case *types.Signature:
		return "a function"
	}
	return "another thing"
}

// compared tells what two things are that are held against each other.
func (y typer) compared(x ast.Expr) string {
	if _, ok := y.info.Types[x].Type.Underlying().(*types.Struct); ok {
		return "structs"
	}
	return "other things"
}

// TestWays: each layer that is built has the ways that the document names for it.
func TestWays(t *testing.T) {
	y := typesOf(read(t))
	for layer, wanted := range leansOn() {
		if _, err := y.Import("cocoon/" + layer); err != nil {
			t.Fatal(err)
		}
		got := map[string]int{}
		for _, f := range y.packs[layer] {
			for way, n := range y.ways(f.tree) {
				got[way] += n
			}
		}
		for _, way := range wanted {
			if got[way] == 0 {
				t.Errorf("%s has no %s", layer, way)
			}
		}
	}
}
