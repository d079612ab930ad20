package undo_test

import (
	"strconv"

	"tabula/api"
)

func sheets() api.Book {
	return api.Book{
		Sheets: []api.Sheet{{Name: "S", Cells: []api.Cell{{Input: "1"}, {Row: 2, Col: 2, Input: "=A1"}}}, {Name: "T"}},
		Names:  []api.Name{{Name: "rate", Sheet: -1, Input: "=S!A1"}},
		Rules:  []api.Rule{{Area: api.Area{Rows: 3, Cols: 3}, Formula: "=A1>1", Style: 5}, {Area: api.Area{Row: 3, Rows: 1, Cols: 1}, Formula: "=T!A1", Style: 9}},
	}
}

func set(row int, col int, s string) api.Op {
	return api.Op{Kind: api.OpSet, Row: row, Col: col, S: s}
}
func rowsIn(row int, n int) api.Op  { return api.Op{Kind: api.OpRowsIn, Row: row, N: n} }
func rowsOut(row int, n int) api.Op { return api.Op{Kind: api.OpRowsOut, Row: row, N: n} }
func sheetIn(name string) api.Op    { return api.Op{Kind: api.OpSheetIn, Name: name} }
func noRule(n int) api.Op           { return api.Op{Kind: api.OpNoRule, N: n} }
func table(name string, row int, cols ...string) api.Op {
	return api.Op{Kind: api.OpTable, Table: api.Table{Name: name, Sheet: 1, Row: row, Rows: 2, Cols: cols}}
}
func rule(formula string) api.Op {
	return api.Op{Kind: api.OpRule, Rule: api.Rule{Area: api.Area{Row: 1, Rows: 2, Cols: 2}, Formula: formula, Style: 7}}
}

func on(author int, o api.Op) api.Entry { return api.Entry{Author: author, Op: o} }

// off is an entry that was taken back, and may be made again.
func off(author int, o api.Op) api.Entry {
	return api.Entry{Author: author, Op: o, Off: true, Again: o}
}

// marked is an entry that was taken back, and may not be made again.
func marked(author int, o api.Op) api.Entry {
	return api.Entry{Author: author, Op: o, Off: true, Again: noRule(0)}
}

func entries(l ...api.Entry) []api.Entry { return l }

// dice are numbers that look like chance, and are the same in each run.
type dice uint64

func (d *dice) below(n int) int {
	*d = *d*6364136223846793005 + 1442695040888963407
	return int(uint64(*d)>>33) % n
}

func (d *dice) one(list ...string) string { return list[d.below(len(list))] }

func (d *dice) op() api.Op {
	at, n, sheet := d.below(5), 1+d.below(2), d.below(4)/3
	cell := d.one("", "S!", "T!") + d.one("A", "B", "C") + strconv.Itoa(1+d.below(5))
	formula := d.one("="+cell, "= "+cell, "=SUM("+cell+":C5)", "=rate+"+cell)
	switch d.below(15) {
	case 0, 1:
		return api.Op{Kind: api.OpRowsIn, Sheet: sheet, Row: at, N: n}
	case 2:
		return api.Op{Kind: api.OpRowsOut, Sheet: sheet, Row: at, N: n}
	case 3:
		return api.Op{Kind: api.OpColsIn, Sheet: sheet, Col: at, N: n}
	case 4:
		return api.Op{Kind: api.OpColsOut, Sheet: sheet, Col: at, N: n}
	case 5:
		return api.Op{Kind: api.OpRename, Sheet: sheet, Name: d.one("S", "T", "U", "V")}
	case 6:
		return sheetIn(d.one("T", "U", "V"))
	case 7:
		return api.Op{Kind: api.OpSheetOut, Sheet: d.below(3)}
	case 8:
		return api.Op{Kind: api.OpName, Sheet: d.below(2) - 1, Name: d.one("rate", "n"), S: d.one("", "=S!A2", formula)}
	case 9:
		return rule(formula)
	case 10:
		return noRule(d.below(4))
	case 11:
		return d.tableOp()
	}
	return api.Op{Kind: api.OpSet, Sheet: sheet, Row: at, Col: d.below(4), S: d.one("", "7", formula, formula)}
}

func (d *dice) tableOp() api.Op {
	if d.below(3) == 0 {
		return api.Op{Kind: api.OpNoTable, Name: d.one("tab", "New")}
	}
	return table(d.one("Tab", "New"), 5+3*d.below(2), "a", "b")
}
