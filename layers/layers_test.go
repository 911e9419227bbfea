// Package layers holds tests of the program's source: which packages each one imports, and how it is laid out.
package layers

import (
	"bytes"
	"go/format"
	"go/parser"
	"go/token"
	"os"
	"path/filepath"
	"strconv"
	"strings"
	"testing"
)

// below says DOC.md's map: the packages of the program that each one may call.
func below() map[string]string {
	return map[string]string{
		"api":    "",
		"kind":   "api",
		"tree":   "",
		"pat":    "api kind",
		"prog":   "api pat",
		"match":  "api kind prog",
		"find":   "api tree match",
		"tmpl":   "api",
		"expand": "api kind",
		"subst":  "api match expand",
		"marks":  "api",
		"regs":   "api kind",
		"undo":   "api",
		"buf":    "api tree marks undo",
		"addr":   "api kind tree pat prog find buf",
		"cmd":    "api kind addr",
		"edit":   "api marks regs buf",
		"repeat": "api tmpl subst addr buf",
		"glob":   "api",
		"norm":   "api kind regs buf edit",
		"run":    "api tree find regs buf addr cmd edit repeat glob norm",
		"lab":    "api run",
	}
}

// library says which packages of Go's library the language of the program has.
const library = "bytes cmp container/heap errors iter maps math math/bits slices sort strconv strings sync sync/atomic unicode unicode/utf8"

func has(words, word string) bool {
	return strings.Contains(" "+words+" ", " "+word+" ")
}

func allowed(layer, path string) bool {
	if name, own := strings.CutPrefix(path, "emendator/"); own {
		return has(below()[layer], name)
	}
	return has(library, path)
}

func source(t *testing.T, layer string) []string {
	t.Helper()
	all, err := filepath.Glob(filepath.Join("..", layer, "*.go"))
	if err != nil || len(all) == 0 {
		t.Fatalf("%s: no Go file (%v)", layer, err)
	}
	return all
}

func TestEachLayerImportsOnlyThoseBelow(t *testing.T) {
	for layer := range below() {
		for _, name := range source(t, layer) {
			if strings.HasSuffix(name, "_test.go") {
				continue
			}
			f, err := parser.ParseFile(token.NewFileSet(), name, nil, parser.ImportsOnly)
			if err != nil {
				t.Fatal(err)
			}
			for _, i := range f.Imports {
				if path, _ := strconv.Unquote(i.Path.Value); !allowed(layer, path) {
					t.Errorf("%s imports %s", name, path)
				}
			}
		}
	}
}

func TestLayout(t *testing.T) {
	for layer := range below() {
		for _, name := range source(t, layer) {
			is, err := os.ReadFile(name)
			if err != nil {
				t.Fatal(err)
			}
			if want, err := format.Source(is); err != nil || !bytes.Equal(is, want) {
				t.Errorf("%s: not as gofmt lays it out (%v)", name, err)
			}
		}
	}
}
