package bare_test

import (
	"reflect"
	"testing"

	"tabula/api"
	"tabula/bare"
)

// What is left of a workbook is its own memory.
func TestBare(t *testing.T) {
	some := func() api.Book {
		return api.Book{
			Sheets: []api.Sheet{{Name: "S", Cells: []api.Cell{{Input: "1"}, {Col: 1, Input: "2"}}}, {Name: "T", Cells: []api.Cell{{Row: 5, Input: "3"}}}},
			Names:  []api.Name{{Name: "x", Sheet: -1, Input: "=1"}},
			Tables: []api.Table{{Name: "U", Rows: 1, Cols: []string{"a"}}},
			Rules:  []api.Rule{{Style: 1}},
		}
	}
	b := some()
	if got, want := bare.Book(b), (api.Book{Sheets: []api.Sheet{{Name: "S"}, {Name: "T"}}, Tables: b.Tables}); !reflect.DeepEqual(got, want) {
		t.Errorf("Book: %+v", got)
	}
	got := bare.Cell(b, api.At{Sheet: 1, Row: 5}, "=4")
	if want := (api.Book{Sheets: []api.Sheet{{Name: "S"}, {Name: "T", Cells: []api.Cell{{Row: 5, Input: "=4"}}}}, Names: b.Names, Tables: b.Tables}); !reflect.DeepEqual(got, want) {
		t.Errorf("Cell: %+v", got)
	}
	got.Sheets[0].Name, got.Names[0].Name, got.Tables[0].Cols[0] = "y", "y", "y"
	if !reflect.DeepEqual(b, some()) {
		t.Errorf("what was handed in is another one: %+v", b)
	}
}
