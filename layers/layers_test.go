// Package layers holds the layers to the map of shared/DOC.md (R6): none calls a layer that the map does not list for it.
package layers

import (
	"go/parser"
	"go/token"
	"path/filepath"
	"slices"
	"strconv"
	"strings"
	"testing"
)

// calls are the layers that each one may call, beside package api.
var calls = map[string][]string{
	"fix":    {},
	"wide":   {},
	"nice":   {"wide"},
	"vrun":   {},
	"arena":  {},
	"rbtree": {},
	"renorm": {"fix"},
	"runq":   {"fix", "wide", "vrun", "rbtree", "renorm"},
	"mask":   {},
	"gtree":  {"arena"},
	"share":  {"wide"},
	"quota":  {"fix"},
	"fifo":   {},
	"state":  {},
	"load":   {},
	"pull":   {"load"},
	"place":  {"load"},
	"ledger": {},
	"event":  {"mask"},
	"hier":   {"wide", "renorm", "runq"},
	"percpu": {"fix", "wide"},
	"sched":  {"wide", "nice", "arena", "renorm", "gtree", "share", "quota", "fifo", "load", "pull", "place", "ledger", "hier", "percpu"},
	"audit":  {"mask"},
	"bound":  {"wide"},
}

// imports are the paths that a package's own files import, tests left out.
func imports(t *testing.T, layer string) []string {
	files, err := filepath.Glob(filepath.Join("..", layer, "*.go"))
	if err != nil {
		t.Fatal(err)
	}
	var out []string
	found := false
	for _, name := range files {
		if strings.HasSuffix(name, "_test.go") {
			continue
		}
		found = true
		file, err := parser.ParseFile(token.NewFileSet(), name, nil, parser.ImportsOnly)
		if err != nil {
			t.Fatal(err)
		}
		for _, spec := range file.Imports {
			path, err := strconv.Unquote(spec.Path.Value)
			if err != nil {
				t.Fatal(err)
			}
			out = append(out, path)
		}
	}
	if !found {
		t.Errorf("layer %s has no package", layer)
	}
	return out
}

func TestCalls(t *testing.T) {
	for layer, may := range calls {
		for _, path := range imports(t, layer) {
			name, own := strings.CutPrefix(path, "dole/")
			_, isLayer := calls[name]
			if own && isLayer && !slices.Contains(may, name) {
				t.Errorf("%s calls %s: the map does not list it", layer, name)
			}
		}
	}
}
