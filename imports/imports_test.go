// Package imports asks what the project's files import: rule 1 of the language lists what they may.
package imports

import (
	"go/parser"
	"go/token"
	"io/fs"
	"os"
	"slices"
	"strconv"
	"strings"
	"testing"
	"testing/fstest"
)

// listed tells whether rule 1 lists a package.
func listed(path string) bool {
	switch path {
	case "bytes", "cmp", "container/heap", "errors", "iter", "maps", "math", "math/bits", "slices", "sort", "strconv", "strings", "sync", "sync/atomic", "unicode", "unicode/utf8":
		return true
	}
	return strings.HasPrefix(path, "shelfmark/")
}

// asked tells whether a file is a Go file of the program: tests may import all of the library.
func asked(name string) bool {
	return strings.HasSuffix(name, ".go") && !strings.HasSuffix(name, "_test.go")
}

// passed tells whether a folder is none of the project's, though it lies in its tree: .ci/run lays the shared tests there.
func passed(path string) bool {
	return path == ".git" || path == "sharedtests"
}

// faultsOf are the packages that a file imports and may not.
func faultsOf(path string, text []byte) ([]string, error) {
	file, err := parser.ParseFile(token.NewFileSet(), path, text, parser.ImportsOnly)
	if err != nil {
		return nil, err
	}
	var l []string
	for _, spec := range file.Imports {
		name, err := strconv.Unquote(spec.Path.Value)
		if err != nil {
			return nil, err
		}
		if !listed(name) {
			l = append(l, path+" imports "+strconv.Quote(name))
		}
	}
	return l, nil
}

// faults are what the files of a tree import and may not, and how many files were asked.
// Each file is asked, also those that a build passes over.
func faults(tree fs.FS) (l []string, files int, err error) {
	err = fs.WalkDir(tree, ".", func(path string, entry fs.DirEntry, err error) error {
		if err != nil {
			return err
		}
		if entry.IsDir() {
			if passed(path) {
				return fs.SkipDir
			}
			return nil
		}
		if !asked(path) {
			return nil
		}
		files++
		text, err := fs.ReadFile(tree, path)
		if err != nil {
			return err
		}
		of, err := faultsOf(path, text)
		l = append(l, of...)
		return err
	})
	return l, files, err
}

func TestTheProjectImportsWhatIsListed(t *testing.T) {
	l, files, err := faults(os.DirFS(".."))
	if err != nil {
		t.Fatal(err)
	}
	for _, s := range l {
		t.Errorf("%s: rule 1 of the language doesn't list it", s)
	}
	// Fewer files than layers: something else than the project was asked.
	if files < 27 {
		t.Errorf("%d files were asked", files)
	}
}

// checkFaults asks for what the files of a tree import and may not.
func checkFaults(t *testing.T, files map[string]string, want ...string) {
	t.Helper()
	tree := fstest.MapFS{}
	for path, text := range files {
		tree[path] = &fstest.MapFile{Data: []byte(text)}
	}
	if got, _, err := faults(tree); err != nil || !slices.Equal(got, want) {
		t.Errorf("of %q: %q, %v, not %q", files, got, err, want)
	}
}

func TestAllThatIsListedMayBeImported(t *testing.T) {
	checkFaults(t, nil)
	checkFaults(t, map[string]string{"a.go": "package a\n"})
	checkFaults(t, map[string]string{
		"a/a.go": "package a\nimport (\n\"bytes\"\n\"cmp\"\n\"container/heap\"\n\"errors\"\n\"iter\"\n\"maps\"\n\"math\"\n\"math/bits\"\n)\n",
		"b/b.go": "package b\nimport (\n\"slices\"\n\"sort\"\n\"strconv\"\n\"strings\"\n\"sync\"\n\"sync/atomic\"\n\"unicode\"\n\"unicode/utf8\"\n)\n",
		"c/c.go": "package c\nimport \"shelfmark/a\"\nimport x \"shelfmark/b\"\n",
	})
}

func TestNothingElseMayBeImported(t *testing.T) {
	for _, name := range []string{
		"encoding/binary", "fmt", "os", "io", "time", "math/rand", "math/rand/v2", "math/big", "math/cmplx", "unsafe", "reflect", "C", "context", "container/list", "container", "encoding/json",
		"hash/crc32", "regexp", "runtime", "testing", "unicode/utf16", "sync/errgroup", "strings/x", "Bytes", "shelf", "shelfmarks/a", "golang.org/x/exp/slices", "example.com/shelfmark/api",
	} {
		for _, line := range []string{`import "?"`, "import `?`", `import x "?"`, `import . "?"`, `import _ "?"`, "import (\n\"bytes\"\n\"?\"\n\"cmp\"\n)", "import \"cmp\"\nimport \"?\""} {
			checkFaults(t, map[string]string{"a/a.go": "package a\n" + strings.ReplaceAll(line, "?", name) + "\n"}, `a/a.go imports "`+name+`"`)
		}
	}
}

func TestFilesOfAllFoldersAreAsked(t *testing.T) {
	text := "package a\nimport \"fmt\"\n"
	for _, path := range []string{"a.go", "a/a.go", "a/b/c/d.go", "api/api.go", "testdata/a.go", "_a/a.go", ".a/a.go", "a/_a.go", "a/a_windows.go", "a/test.go", "a/sharedtests/a.go", "sharedtests.go"} {
		checkFaults(t, map[string]string{path: text, "b/b.go": "package b\n"}, path+` imports "fmt"`)
		checkFaults(t, map[string]string{path: "//go:build ignore\n\n" + text}, path+` imports "fmt"`)
	}
	checkFaults(t, map[string]string{"a/a.go": text, "b/b.go": "package b\nimport (\n\"os\"\n\"unsafe\"\n)\n"}, `a/a.go imports "fmt"`, `b/b.go imports "os"`, `b/b.go imports "unsafe"`)
}

func TestTestsMayImportAll(t *testing.T) {
	text := "package a\nimport \"fmt\"\nimport \"unsafe\"\n"
	for _, path := range []string{"a_test.go", "a/a_test.go", "a/b/a_test.go", "sharedtests/stage1/ways.go", "a/a.go.txt", "a/a", ".git/a.go"} {
		checkFaults(t, map[string]string{path: text, "z/z.go": text}, `z/z.go imports "fmt"`, `z/z.go imports "unsafe"`)
	}
}

// A file that can't be read as Go is not passed over.
func TestAFileThatIsNotGoIsAFault(t *testing.T) {
	for _, text := range []string{"", "no package", "package a\nimport fmt\n", "package a\nimport \"fmt\n"} {
		if _, _, err := faults(fstest.MapFS{"a/a.go": &fstest.MapFile{Data: []byte(text)}}); err == nil {
			t.Errorf("%q is passed over", text)
		}
	}
}
