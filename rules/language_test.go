package rules

import (
	"bytes"
	"go/ast"
	"go/format"
	"go/parser"
	"go/token"
	"os"
	"path/filepath"
	"slices"
	"strings"
	"testing"
)

// library is what of Go's library may be imported: nothing that knows a clock, a source of chance, a file or a network.
const library = " bytes cmp container/heap errors iter maps math math/bits slices sort strconv strings sync sync/atomic unicode unicode/utf8 "

// longest is how many lines a function has at most.
const longest = 60

// standsOn are the layers, in their order, and on which other ones each stands.
var standsOn = [...]struct{ layer, below string }{
	{"mem", ""},
	{"code", ""},
	{"machine", "mem code"},
	{"lexis", ""},
	{"tree", "lexis"},
	{"parse", "lexis"},
	{"kinds", ""},
	{"check", "kinds"},
	{"mir", "tree kinds"},
	{"build", "tree kinds check mir"},
	{"graph", ""},
	{"moves", "kinds mir graph"},
	{"alive", "mir graph"},
	{"loans", "mir graph"},
	{"borrows", "mir alive loans"},
	{"pins", "kinds mir graph borrows"},
	{"layout", "kinds mir alive"},
	{"flags", "kinds mir moves"},
	{"emit", "kinds mir layout flags moves"},
	{"sem", "emit"},
	{"exec", "machine"},
	{"drive", "machine sem exec"},
	{"compile", "parse kinds check mir build graph moves alive loans borrows pins layout flags emit sem exec drive"},
}

// goFile is a file of a package, as it stands there and as a tree.
type goFile struct {
	name string
	text []byte
	tree *ast.File
}

// reader reads packages of the project, each once.
type reader struct {
	*testing.T
	set   *token.FileSet
	packs map[string][]goFile
}

func read(t *testing.T) reader {
	r := reader{t, token.NewFileSet(), map[string][]goFile{}}
	r.pack("api")
	r.pack("bodies")
	for _, x := range standsOn {
		r.pack(x.layer)
	}
	return r
}

// pack reads a package, and those of the project that it imports; tests may use all of Go, and are passed.
func (r reader) pack(name string) {
	r.Helper()
	if _, ok := r.packs[name]; ok {
		return
	}
	r.packs[name] = nil
	entries, err := os.ReadDir(filepath.Join("..", name))
	if err != nil {
		r.Fatal(err)
	}
	for _, x := range entries {
		if strings.HasSuffix(x.Name(), "_test.go") {
			continue
		}
		if !strings.HasSuffix(x.Name(), ".go") {
			r.Errorf("%s/%s is no Go file", name, x.Name())
			continue
		}
		f := r.file(name, x.Name())
		r.packs[name] = append(r.packs[name], f)
		for _, path := range imports(f.tree) {
			if p, ok := strings.CutPrefix(path, "cocoon/"); ok {
				r.pack(p)
			}
		}
	}
	if len(r.packs[name]) == 0 {
		r.Errorf("package %s has no file", name)
	}
}

func (r reader) file(pack, name string) goFile {
	r.Helper()
	path := filepath.Join("..", pack, name)
	text, err := os.ReadFile(path)
	if err != nil {
		r.Fatal(err)
	}
	tree, err := parser.ParseFile(r.set, path, text, parser.ParseComments)
	if err != nil {
		r.Fatal(err)
	}
	return goFile{pack + "/" + name, text, tree}
}

func imports(f *ast.File) []string {
	var l []string
	for _, x := range f.Imports {
		l = append(l, strings.Trim(x.Path.Value, `"`))
	}
	return l
}

// TestImports: what asks a clock, a source of chance, a file or a network can't be imported, nor what comes from outside.
func TestImports(t *testing.T) {
	for _, files := range read(t).packs {
		for _, f := range files {
			for _, path := range imports(f.tree) {
				if !strings.HasPrefix(path, "cocoon/") && !strings.Contains(library, " "+path+" ") {
					t.Errorf("%s imports %s", f.name, path)
				}
			}
		}
	}
}

// TestLayers: a layer calls no other layers than those on which it stands.
func TestLayers(t *testing.T) {
	r := read(t)
	for _, x := range standsOn {
		below := strings.Fields(x.below)
		for _, f := range r.packs[x.layer] {
			for _, path := range imports(f.tree) {
				p, ours := strings.CutPrefix(path, "cocoon/")
				layer := slices.ContainsFunc(standsOn[:], func(y struct{ layer, below string }) bool { return y.layer == p })
				if ours && layer && !slices.Contains(below, p) {
					t.Errorf("%s stands not on %s", f.name, p)
				}
			}
		}
	}
}

// TestLooks: files have gofmt's layout, no line to the compiler, and no function that is too long.
func TestLooks(t *testing.T) {
	r := read(t)
	for _, files := range r.packs {
		for _, f := range files {
			if nice, err := format.Source(f.text); err != nil || !bytes.Equal(nice, f.text) {
				t.Errorf("%s has not gofmt's layout", f.name)
			}
			for _, c := range f.tree.Comments {
				for _, line := range c.List {
					if strings.HasPrefix(line.Text, "//go:") || strings.HasPrefix(line.Text, "// +build") {
						t.Errorf("%s: %s", f.name, line.Text)
					}
				}
			}
			for _, d := range f.tree.Decls {
				if x, ok := d.(*ast.FuncDecl); ok {
					if n := r.set.Position(x.End()).Line - r.set.Position(x.Pos()).Line + 1; n > longest {
						t.Errorf("%s: %s has %d lines", f.name, x.Name.Name, n)
					}
				}
			}
		}
	}
}

// TestStart: nothing at package level is made by a call but an error, and nothing runs ahead of what is asked.
func TestStart(t *testing.T) {
	for _, files := range read(t).packs {
		for _, f := range files {
			for _, d := range f.tree.Decls {
				switch x := d.(type) {
				case *ast.FuncDecl:
					if x.Recv == nil && x.Name.Name == "init" {
						t.Errorf("%s has an init", f.name)
					}
				case *ast.GenDecl:
					if x.Tok == token.VAR {
						startingValues(t, f, x)
					}
				}
			}
		}
	}
}

func startingValues(t *testing.T, f goFile, d *ast.GenDecl) {
	t.Helper()
	for _, s := range d.Specs {
		v := s.(*ast.ValueSpec)
		if len(v.Values) != len(v.Names) {
			t.Errorf("%s: %s has no value of its own", f.name, v.Names[0].Name)
		}
		for _, x := range v.Values {
			ast.Inspect(x, func(n ast.Node) bool {
				switch y := n.(type) {
				case *ast.CallExpr:
					if s, ok := y.Fun.(*ast.SelectorExpr); !ok || s.Sel.Name != "New" {
						t.Errorf("%s: %s is made by a call", f.name, v.Names[0].Name)
					}
				case *ast.MapType, *ast.FuncLit:
					t.Errorf("%s: %s is a map, or holds a function", f.name, v.Names[0].Name)
				}
				return true
			})
		}
	}
}
