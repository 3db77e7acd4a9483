package tests

import (
	"bytes"
	"go/ast"
	"go/format"
	"go/parser"
	"go/token"
	"os"
	"path/filepath"
	"strconv"
	"strings"
	"testing"
)

const allowedImports = " bytes cmp container/heap errors iter maps math math/bits slices sort strconv strings sync sync/atomic unicode unicode/utf8 "

const longestFunction = 60

// The rules of the language that can be read from the files alone.
func TestProgramKeepsToItsLanguage(t *testing.T) {
	paths, err := filepath.Glob("../impl/*")
	if err != nil || len(paths) == 0 {
		t.Fatal("no files of the program", err)
	}
	for _, path := range paths {
		if !strings.HasSuffix(path, ".go") {
			t.Errorf("%s: not a Go file", path)
			continue
		}
		text, err := os.ReadFile(path)
		if err != nil {
			t.Fatal(err)
		}
		checkFile(t, path, text)
	}
}

func checkFile(t *testing.T, path string, text []byte) {
	t.Helper()
	laidOut, err := format.Source(text)
	if err != nil || !bytes.Equal(laidOut, text) {
		t.Errorf("%s: not in gofmt's layout", path)
	}
	files := token.NewFileSet()
	f, err := parser.ParseFile(files, path, text, parser.ParseComments)
	if err != nil {
		t.Fatal(err)
	}
	for _, i := range f.Imports {
		name, _ := strconv.Unquote(i.Path.Value)
		if !strings.Contains(allowedImports, " "+name+" ") {
			t.Errorf("%s: imports %s", path, name)
		}
	}
	for _, group := range f.Comments {
		for _, c := range group.List {
			if strings.HasPrefix(c.Text, "//go:") || strings.HasPrefix(c.Text, "// +build") {
				t.Errorf("%s: has the directive %s", path, c.Text)
			}
		}
	}
	for _, d := range f.Decls {
		fn, ok := d.(*ast.FuncDecl)
		if ok && files.Position(fn.End()).Line-files.Position(fn.Pos()).Line >= longestFunction {
			t.Errorf("%s: %s is too long", path, fn.Name.Name)
		}
	}
}

// Crc32 computes its result without the variables that only sync.Once fills.
func TestTableOfRemaindersStaysBesideCrc32(t *testing.T) {
	f, err := parser.ParseFile(token.NewFileSet(), "../impl/l01_bytes.go", nil, parser.SkipObjectResolution)
	if err != nil {
		t.Fatal(err)
	}
	uses := map[string]map[string]bool{}
	for _, d := range f.Decls {
		if fn, ok := d.(*ast.FuncDecl); ok {
			uses[fn.Name.Name] = namesIn(fn.Body)
		}
	}
	for _, variable := range []string{"crcRemainders", "crcFilled"} {
		check(t, "Crc32 reaches "+variable, reaches(uses, "Crc32", variable), false)
		check(t, "Crc32ByTable reaches "+variable, reaches(uses, "Crc32ByTable", variable), true)
	}
}

func namesIn(n ast.Node) map[string]bool {
	names := map[string]bool{}
	ast.Inspect(n, func(n ast.Node) bool {
		if name, ok := n.(*ast.Ident); ok {
			names[name.Name] = true
		}
		return true
	})
	return names
}

// reaches reports whether a function, or one that it uses, uses a name.
func reaches(uses map[string]map[string]bool, function, name string) bool {
	work, seen := []string{function}, map[string]bool{}
	for len(work) > 0 {
		last := work[len(work)-1]
		work = work[:len(work)-1]
		if last == name {
			return true
		}
		for used := range uses[last] {
			if !seen[used] {
				seen[used] = true
				work = append(work, used)
			}
		}
	}
	return false
}
