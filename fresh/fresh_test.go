package fresh_test

import (
	"reflect"
	"testing"

	"tabula/api"
	"tabula/fresh"
)

// A copy is the same, and what is done to it, in its lists or in their spare room, is not done to what it is of.
func TestBook(t *testing.T) {
	some := func() api.Book {
		return api.Book{
			Sheets: append(make([]api.Sheet, 0, 9), api.Sheet{Name: "S", Cells: append(make([]api.Cell, 0, 9), api.Cell{Input: "1"})}, api.Sheet{Name: "T", Cells: make([]api.Cell, 0, 9)}),
			Names:  append(make([]api.Name, 0, 9), api.Name{Name: "x"}),
			Tables: append(make([]api.Table, 0, 9), api.Table{Name: "T", Cols: append(make([]string, 0, 9), "a")}),
			Rules:  append(make([]api.Rule, 0, 9), api.Rule{Style: 1}),
		}
	}
	b := some()
	c := fresh.Book(b)
	c.Sheets[0].Cells[0].Input, c.Sheets[0].Name, c.Names[0].Name, c.Tables[0].Cols[0], c.Tables[0].Name, c.Rules[0].Style = "2", "U", "y", "b", "V", 2
	_ = append(c.Sheets, api.Sheet{Name: "W"})
	_ = append(c.Sheets[0].Cells, api.Cell{Input: "3"})
	_ = append(c.Sheets[1].Cells, api.Cell{Input: "3"})
	_ = append(c.Names, api.Name{Name: "z"})
	_ = append(c.Tables, api.Table{Name: "Z"})
	_ = append(c.Tables[0].Cols, "c")
	_ = append(c.Rules, api.Rule{Style: 3})
	if !reflect.DeepEqual(b, some()) {
		t.Errorf("what was copied is another one: %+v", b)
	}
	for _, spare := range []bool{b.Sheets[:3][2].Name == "", b.Sheets[0].Cells[:2][1].Input == "", b.Sheets[1].Cells[:1][0].Input == "", b.Names[:2][1].Name == "", b.Tables[:2][1].Name == "", b.Tables[0].Cols[:2][1] == "", b.Rules[:2][1].Style == 0} {
		if !spare {
			t.Error("spare room was written into")
		}
	}
	if c := fresh.Book(api.Book{}); c.Sheets != nil || c.Names != nil || c.Tables != nil || c.Rules != nil {
		t.Errorf("a copy of nothing: %+v", c)
	}
}

func TestLog(t *testing.T) {
	op := func() api.Op {
		return api.Op{Kind: 1, Table: api.Table{Cols: append(make([]string, 0, 9), "a")}}
	}
	some := func() []api.Entry {
		return append(make([]api.Entry, 0, 9), api.Entry{Author: 1, Op: op()}, api.Entry{Off: true, Op: op(), Again: op()})
	}
	l := some()
	c := fresh.Log(l)
	if !reflect.DeepEqual(c, some()) {
		t.Errorf("a copy is another one: %+v", c)
	}
	c[0].Author, c[0].Op.Table.Cols[0], c[1].Op.Table.Cols[0], c[1].Again.Table.Cols[0] = 2, "b", "b", "b"
	_ = append(c, api.Entry{Author: 3})
	_ = append(c[1].Again.Table.Cols, "c")
	if !reflect.DeepEqual(l, some()) || l[:3][2].Author != 0 || l[1].Again.Table.Cols[:2][1] != "" {
		t.Errorf("what was copied is another one: %+v", l)
	}
	if fresh.Log(nil) != nil || fresh.Op(api.Op{}).Table.Cols != nil {
		t.Error("a copy of nothing is something")
	}
}
