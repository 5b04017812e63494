// Package layers holds the tests of what concerns all layers: which packages
// each may call.
package layers

import (
	"go/parser"
	"go/token"
	"path/filepath"
	"slices"
	"strings"
	"testing"
)

// order is the map's, with grid, lehmer, echelon and rows, that stand beside the layers:
// each may call those ahead of it.
func order() []string {
	return []string{
		"api", "grid", "nat", "lehmer", "mul", "div", "dec", "zint", "echelon", "modn", "rat", "gfp", "fpoly", "zpoly",
		"zmat", "rows", "bareiss", "qmat", "hnf", "modhnf", "snf", "kernel", "dioph", "lll", "gram",
		"fmat", "hess", "xmat", "xform", "frob", "zchar", "lexer", "parser", "value", "run",
	}
}

// library is what the language leaves of the standard one.
func library() []string {
	return []string{
		"bytes", "cmp", "container/heap", "errors", "iter", "maps", "math", "math/bits", "slices",
		"sort", "strconv", "strings", "sync", "sync/atomic", "unicode", "unicode/utf8",
	}
}

// imports tells the paths that the package's files name, but its tests.
func imports(t *testing.T, name string) []string {
	t.Helper()
	files, err := filepath.Glob(filepath.Join("..", name, "*.go"))
	if err != nil || len(files) == 0 {
		t.Fatal(name, files, err)
	}
	var paths []string
	for _, file := range files {
		if strings.HasSuffix(file, "_test.go") {
			continue
		}
		tree, err := parser.ParseFile(token.NewFileSet(), file, nil, parser.ImportsOnly)
		if err != nil {
			t.Fatal(err)
		}
		for _, spec := range tree.Imports {
			paths = append(paths, strings.Trim(spec.Path.Value, `"`))
		}
	}
	return paths
}

// The map: layers call those ahead of them, and what the language has.
func TestImports(t *testing.T) {
	allowed := library()
	for _, name := range order() {
		for _, path := range imports(t, name) {
			if !slices.Contains(allowed, path) {
				t.Errorf("%s imports %s", name, path)
			}
		}
		allowed = append(allowed, "quincunx/"+name)
	}
}

// Chapter 27: lexer calls nothing of the project but api.
func TestImportsOfLexer(t *testing.T) {
	for _, path := range imports(t, "lexer") {
		if strings.HasPrefix(path, "quincunx/") && path != "quincunx/api" {
			t.Error(path)
		}
	}
}
