package desk_test

import (
	"strconv"
	"testing"

	"tabula/api"
	"tabula/desk"
	"tabula/pack"
	"tabula/ref"
	"tabula/val"
)

func sheets() api.Book {
	return api.Book{
		Sheets: []api.Sheet{{Name: "S", Cells: []api.Cell{{Input: "1"}, {Row: 2, Col: 2, Input: "=A1"}}}, {Name: "T"}},
		Names:  []api.Name{{Name: "rate", Sheet: -1, Input: "=S!A1"}},
		Rules:  []api.Rule{{Area: api.Area{Rows: 3, Cols: 3}, Formula: "=A1>1", Style: 5}},
	}
}

func one() api.Book { return api.Book{Sheets: []api.Sheet{{Name: "S"}}} }

// at is a place of the first sheet, told as `A1`.
func at(t *testing.T, place string) api.At {
	t.Helper()
	r, err := ref.Read(place)
	if err != api.OK {
		t.Fatalf("%s: error %d", place, err)
	}
	return api.At{Row: r.Row, Col: r.Col}
}

// set puts an input into a cell of the first sheet.
func set(t *testing.T, place string, input string) api.Op {
	t.Helper()
	p := at(t, place)
	return api.Op{Kind: api.OpSet, Row: p.Row, Col: p.Col, S: input}
}

func rowsIn(row int, n int) api.Op  { return api.Op{Kind: api.OpRowsIn, Row: row, N: n} }
func rowsOut(row int, n int) api.Op { return api.Op{Kind: api.OpRowsOut, Row: row, N: n} }

func started(t *testing.T, size int, b api.Book) *desk.Desk {
	t.Helper()
	d, err := desk.New(size)
	if err != api.OK {
		t.Fatalf("New(%d): error %d", size, err)
	}
	ok(t, d.Start(b))
	return d
}

func ok(t *testing.T, err api.Errno) {
	t.Helper()
	if err != api.OK {
		t.Fatalf("error %d", err)
	}
}

// shows is what a desk shows at a place, as val.Text has it.
func shows(t *testing.T, d *desk.Desk, place string) string {
	t.Helper()
	v, err := d.Value(at(t, place))
	ok(t, err)
	s, _ := val.Text(v)
	return s
}

// file is that of the workbook which a desk shows.
func file(t *testing.T, d *desk.Desk) string {
	t.Helper()
	b, err := d.Book()
	ok(t, err)
	s, err := pack.Encode(b)
	ok(t, err)
	return s
}

// dice are numbers that look like chance, and are the same in each run.
type dice uint64

func (d *dice) below(n int) int {
	*d = *d*6364136223846793005 + 1442695040888963407
	return int(uint64(*d)>>33) % n
}

func (d *dice) one(list ...string) string { return list[d.below(len(list))] }

func (d *dice) op() api.Op {
	row, n, sheet := d.below(5), 1+d.below(2), d.below(4)/3
	cell := d.one("", "S!", "T!") + d.one("A", "B", "C") + strconv.Itoa(1+d.below(5))
	formula := d.one("="+cell, "= "+cell, "=SUM("+cell+":C5)", "=rate+"+cell, "=NOW()+"+cell, "=SEQUENCE(2)")
	switch d.below(16) {
	case 0, 1:
		return api.Op{Kind: api.OpRowsIn, Sheet: sheet, Row: row, N: n}
	case 2:
		return api.Op{Kind: api.OpRowsOut, Sheet: sheet, Row: row, N: n}
	case 3:
		return api.Op{Kind: api.OpColsIn, Sheet: sheet, Col: row, N: n}
	case 4:
		return api.Op{Kind: api.OpRename, Sheet: sheet, Name: d.one("S", "T", "U", "V")}
	case 5:
		return api.Op{Kind: api.OpSheetIn, Name: d.one("T", "U", "V")}
	case 6:
		return api.Op{Kind: api.OpSheetOut, Sheet: d.below(3)}
	case 7:
		return api.Op{Kind: api.OpName, Sheet: d.below(2) - 1, Name: d.one("rate", "n"), S: d.one("", "=S!A2", "=T!A1")}
	case 8:
		return api.Op{Kind: api.OpRule, Rule: api.Rule{Area: api.Area{Row: 1, Rows: 2, Cols: 2}, Formula: formula, Style: 7}}
	case 9:
		return api.Op{Kind: api.OpNoRule, N: d.below(3)}
	case 10:
		return api.Op{Kind: api.OpTable, Table: api.Table{Name: d.one("Tab", "New"), Sheet: 1, Row: 5 + 3*d.below(2), Rows: 2, Cols: []string{"a", "b"}}}
	case 11:
		return api.Op{Kind: api.OpNoTable, Name: d.one("tab", "New")}
	}
	return api.Op{Kind: api.OpSet, Sheet: sheet, Row: row, Col: d.below(4), S: d.one("", "7", "x", formula, formula)}
}

// keep are some of so many pieces, some of them by half; or all, or none.
func (d *dice) keep(n int) []int {
	var list []int
	most := d.below(5)
	for k := range n {
		if d.below(4) < most {
			list = append(list, k)
		} else if d.below(3) == 0 {
			list = append(list, -1-k)
		}
	}
	return list
}
