package code

import (
	"go/ast"
	"go/parser"
	"go/token"
	"testing"

	"tailor/api"
)

// These tests hold to what the document's section 'Ways' and rule 3b ask of the variable itself.

func TestP5TheTableHoldsWhatCodeAnswers(t *testing.T) {
	rules := allPairs()
	if len(rules) != codes {
		t.Fatalf("the rules give %d codes, want %d", len(rules), codes)
	}
	for n, p := range table {
		first, second, e := Code(n)
		if p != rules[n] || p != (pair{first, second}) || e != api.OK {
			t.Errorf("P5: code %d: the table has %v, the rules %v, Code answers %v, %v, %d", n, p, rules[n], first, second, e)
		}
	}
}

func TestP5TheTableIsFilledByInitAndReadByAnExportedFunction(t *testing.T) {
	written, read := namesOfTable(t)
	if len(written) != 1 || written[0] != "init" {
		t.Errorf("Ways: the table is written by %v, want init, once", written)
	}
	exported := 0
	for _, name := range read {
		if ast.IsExported(name) {
			exported++
		}
	}
	if exported == 0 {
		t.Errorf("rule 3b: the table is read by %v, of which none is exported", read)
	}
}

// namesOfTable tells, once for each place, the functions that write into the table and those that name it otherwise.
func namesOfTable(t *testing.T) (written []string, read []string) {
	for _, name := range []string{"code.go", "table.go"} {
		file, err := parser.ParseFile(token.NewFileSet(), name, nil, 0)
		if err != nil {
			t.Fatal(err)
		}
		for _, d := range file.Decls {
			f, ok := d.(*ast.FuncDecl)
			if !ok {
				continue
			}
			assigned := assignedNames(f)
			ast.Inspect(f, func(n ast.Node) bool {
				if x, ok := n.(*ast.Ident); ok && x.Name == "table" {
					if assigned[x] {
						written = append(written, f.Name.Name)
					} else {
						read = append(read, f.Name.Name)
					}
				}
				return true
			})
		}
	}
	return written, read
}

// assignedNames: the names to which, or into which, the function assigns.
func assignedNames(f *ast.FuncDecl) map[*ast.Ident]bool {
	names := map[*ast.Ident]bool{}
	ast.Inspect(f, func(n ast.Node) bool {
		if a, ok := n.(*ast.AssignStmt); ok {
			for _, left := range a.Lhs {
				if i, ok := left.(*ast.IndexExpr); ok {
					left = i.X
				}
				if x, ok := left.(*ast.Ident); ok {
					names[x] = true
				}
			}
		}
		return true
	})
	return names
}
