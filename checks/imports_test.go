// Package checks_test holds what must be so of all packages alike.
package checks_test

import (
	"go/parser"
	"go/token"
	"path/filepath"
	"slices"
	"strconv"
	"strings"
	"testing"
)

// The packages of the layers, and those of the project that each may import, by the document's overview.
var layers = map[string]string{
	"api":    "",
	"frac":   "api",
	"plane":  "api frac",
	"speech": "api frac",
	"rule":   "api frac speech",
	"seek":   "api frac plane speech rule",
	"toll":   "api frac speech",
	"hall":   "api frac",
	"vine":   "api frac speech rule",
	"pact":   "api frac speech rule",
	"house":  "api frac plane speech rule seek toll hall vine pact",
	"grid":   "api frac toll",
	"tide":   "api frac",
	"road":   "api frac",
	"crowd":  "api frac speech rule",
	"twin":   "api house",
}

// What the program's language has of the standard library.
const library = "bytes cmp container/heap errors iter maps math math/bits slices sort strconv strings sync sync/atomic unicode unicode/utf8"

// imports is what a package's own files import, tests not counted.
func imports(t *testing.T, layer string) []string {
	t.Helper()
	files, err := filepath.Glob(filepath.Join("..", layer, "*.go"))
	if err != nil || len(files) == 0 {
		t.Fatal("no files of", layer, err)
	}
	var out []string
	for _, f := range files {
		if strings.HasSuffix(f, "_test.go") {
			continue
		}
		parsed, err := parser.ParseFile(token.NewFileSet(), f, nil, parser.ImportsOnly)
		if err != nil {
			t.Fatal(err)
		}
		for _, i := range parsed.Imports {
			path, _ := strconv.Unquote(i.Path.Value)
			out = append(out, path)
		}
	}
	return out
}

// Each layer imports no other layers than the overview says, and of the library what the language has; frac imports package api alone (chapter 1).
func TestImports(t *testing.T) {
	for layer, lower := range layers {
		var may []string
		for _, l := range strings.Fields(lower) {
			may = append(may, "unbent/"+l)
		}
		if layer != "frac" {
			may = append(may, strings.Fields(library)...)
		}
		for _, path := range imports(t, layer) {
			if !slices.Contains(may, path) {
				t.Error(layer, "imports", path)
			}
		}
	}
}
