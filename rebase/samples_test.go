package rebase_test

import (
	"strconv"

	"tabula/api"
	"tabula/op"
)

// good is a workbook with something of each kind.
func good() api.Book {
	return api.Book{
		Sheets: []api.Sheet{{Name: "S", Cells: []api.Cell{{Input: "=B2"}, {Row: 1, Col: 1, Input: "x"}}}, {Name: "Two x", Cells: []api.Cell{{Row: 3, Input: "=S!B2"}}}, {Name: "T"}},
		Names:  []api.Name{{Name: "Rate", Sheet: -1, Input: "=S!A1"}, {Name: "rate", Sheet: 1, Input: "=A4"}, {Name: "k", Sheet: 0, Input: "=Tab[a]"}},
		Tables: []api.Table{{Name: "Tab", Row: 4, Col: 4, Rows: 2, Cols: []string{"a", "b", "c"}}, {Name: "Other", Sheet: 1, Row: 9, Rows: 1, Cols: []string{"a"}}},
		Rules:  []api.Rule{{Area: api.Area{Rows: 3, Cols: 3}, Formula: "=A1>1", Style: 5}, {Area: api.Area{Sheet: 1, Row: 2, Rows: 1, Cols: 1}, Formula: "=B1", Must: true}, {Area: api.Area{Row: 3, Rows: 1, Cols: 1}, Formula: "=T!A1", Style: 9}},
	}
}

func set(sheet int, row int, col int, s string) api.Op {
	return api.Op{Kind: api.OpSet, Sheet: sheet, Row: row, Col: col, S: s}
}
func rowsIn(sheet int, row int, n int) api.Op {
	return api.Op{Kind: api.OpRowsIn, Sheet: sheet, Row: row, N: n}
}
func rowsOut(sheet int, row int, n int) api.Op {
	return api.Op{Kind: api.OpRowsOut, Sheet: sheet, Row: row, N: n}
}
func colsIn(sheet int, col int, n int) api.Op {
	return api.Op{Kind: api.OpColsIn, Sheet: sheet, Col: col, N: n}
}
func colsOut(sheet int, col int, n int) api.Op {
	return api.Op{Kind: api.OpColsOut, Sheet: sheet, Col: col, N: n}
}
func sheetIn(name string) api.Op { return api.Op{Kind: api.OpSheetIn, Name: name} }
func sheetOut(sheet int) api.Op  { return api.Op{Kind: api.OpSheetOut, Sheet: sheet} }
func rename(sheet int, name string) api.Op {
	return api.Op{Kind: api.OpRename, Sheet: sheet, Name: name}
}
func name(sheet int, name string, s string) api.Op {
	return api.Op{Kind: api.OpName, Sheet: sheet, Name: name, S: s}
}
func table(name string, sheet int, row int, col int, rows int, cols ...string) api.Op {
	return api.Op{Kind: api.OpTable, Table: api.Table{Name: name, Sheet: sheet, Row: row, Col: col, Rows: rows, Cols: cols}}
}
func noTable(name string) api.Op { return api.Op{Kind: api.OpNoTable, Name: name} }
func rule(sheet int, row int, col int, rows int, cols int, formula string) api.Op {
	return api.Op{Kind: api.OpRule, Rule: api.Rule{Area: api.Area{Sheet: sheet, Row: row, Col: col, Rows: rows, Cols: cols}, Formula: formula, Style: 7}}
}
func noRule(n int) api.Op { return api.Op{Kind: api.OpNoRule, N: n} }

// dice are numbers that look like chance, and are the same in each run.
type dice uint64

func (d *dice) below(n int) int {
	*d = *d*6364136223846793005 + 1442695040888963407
	return int(uint64(*d)>>33) % n
}

func (d *dice) one(list ...string) string { return list[d.below(len(list))] }

// number is one near a sheet's beginning, or its end.
func (d *dice) number(count int) int {
	if d.below(9) == 0 {
		return count - 1 - d.below(4)
	}
	return d.below(9)
}

func (d *dice) formula() string {
	cell := d.one("", "", "S!", "'two X'!", "T!", "V!", "It!") + d.one("A", "B", "$C", "E", "AZ") + strconv.Itoa(1+d.number(200))
	return d.one("="+cell, "="+cell, "="+cell+"+1", "=SUM("+cell+":D"+strconv.Itoa(1+d.below(9))+")", "= "+cell, "=Tab[b]+"+cell, "=1", "=#REF!+"+cell)
}

func (d *dice) op() api.Op {
	sheet := d.below(4)
	if sheet == 3 {
		sheet = d.below(3)
	}
	lines := func(count int) (int, int) {
		at := d.number(count)
		return at, 1 + d.below(min(4, count-at))
	}
	row, rows := lines(200)
	col, cols := lines(52)
	switch 1 + d.below(13) {
	case api.OpSet:
		return set(sheet, row, col, d.one("", "x", "5", d.formula(), d.formula()))
	case api.OpRowsIn:
		return rowsIn(sheet, row, rows)
	case api.OpRowsOut:
		return rowsOut(sheet, row, rows)
	case api.OpColsIn:
		return colsIn(sheet, col, cols)
	case api.OpColsOut:
		return colsOut(sheet, col, cols)
	case api.OpSheetIn:
		return sheetIn(d.one("V", "It", "S"))
	case api.OpSheetOut:
		return sheetOut(sheet)
	case api.OpRename:
		return rename(sheet, d.one("V", "It", "s", "S", "T"))
	case api.OpName:
		return name(sheet-d.below(2), d.one("rate", "K", "new"), d.one("", "", "=S!A1", d.formula()))
	case api.OpTable:
		return table(d.one("New", "Third", "tab"), sheet, row, col, rows, []string{"a", "b", "c", "d"}[:min(cols, 52-col)]...)
	case api.OpNoTable:
		return noTable(d.one("tab", "OTHER", "new", "third"))
	case api.OpRule:
		return rule(sheet, row, col, rows, cols, d.formula())
	}
	return noRule(d.below(5))
}

// book is one that some operations make of the good one.
func (d *dice) book() api.Book {
	b := good()
	for range d.below(4) {
		if next, err := op.Apply(b, d.op()); err == api.OK {
			b = next
		}
	}
	return b
}
