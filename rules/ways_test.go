package rules

import (
	"go/ast"
	"go/importer"
	"go/types"
	"strings"
	"testing"
)

// leansOn is which of the language's ways each layer that is built leans on.
func leansOn() map[string][]string {
	return map[string][]string{
		"mem": {"clear", "copy", "range over an integer"},
	}
}

// typer knows the types of all packages that were read.
type typer struct {
	reader
	info    *types.Info
	library types.Importer
	done    map[string]*types.Package
}

func typesOf(r reader) typer {
	info := &types.Info{Types: map[ast.Expr]types.TypeAndValue{}, Uses: map[*ast.Ident]types.Object{}}
	return typer{r, info, importer.ForCompiler(r.set, "source", nil), map[string]*types.Package{}}
}

// Import is the package of a path: one of the project as it was read.
func (y typer) Import(path string) (*types.Package, error) {
	name, ours := strings.CutPrefix(path, "cocoon/")
	if !ours {
		return y.library.Import(path)
	}
	if p := y.done[name]; p != nil {
		return p, nil
	}
	var files []*ast.File
	for _, f := range y.packs[name] {
		files = append(files, f.tree)
	}
	c := types.Config{Importer: y}
	p, err := c.Check(path, y.set, files, y.info)
	y.done[name] = p
	return p, err
}

// ways are those that a piece of code has.
func (y typer) ways(n ast.Node) map[string]int {
	got := map[string]int{}
	ast.Inspect(n, func(n ast.Node) bool {
		switch x := n.(type) {
		case *ast.Ident:
			if b, ok := y.info.Uses[x].(*types.Builtin); ok {
				got[b.Name()]++
			}
		case *ast.RangeStmt:
			if b, ok := y.info.Types[x.X].Type.Underlying().(*types.Basic); ok && b.Info()&types.IsInteger != 0 {
				got["range over an integer"]++
			}
		}
		return true
	})
	return got
}

// TestWays: each layer that is built has the ways that the document names for it.
func TestWays(t *testing.T) {
	y := typesOf(read(t))
	for layer, wanted := range leansOn() {
		if _, err := y.Import("cocoon/" + layer); err != nil {
			t.Fatal(err)
		}
		got := map[string]int{}
		for _, f := range y.packs[layer] {
			for way, n := range y.ways(f.tree) {
				got[way] += n
			}
		}
		for _, way := range wanted {
			if got[way] == 0 {
				t.Errorf("%s has no %s", layer, way)
			}
		}
	}
}
