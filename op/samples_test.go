package op_test

import (
	"math"
	"strconv"
	"strings"

	"tabula/api"
)

// good is a workbook with something of each kind.
func good() api.Book {
	return api.Book{
		Sheets: []api.Sheet{{Name: "S", Cells: []api.Cell{{Input: "=B2"}, {Row: 1, Col: 1, Input: "x"}}}, {Name: "Two x", Cells: []api.Cell{{Row: 3, Input: "=S!B2"}}}, {Name: "T"}},
		Names:  []api.Name{{Name: "Rate", Sheet: -1, Input: "=S!A1"}, {Name: "rate", Sheet: 1, Input: "=A4"}, {Name: "k", Sheet: -1, Input: "=1"}},
		Tables: []api.Table{{Name: "Tab", Row: 4, Col: 4, Rows: 2, Cols: []string{"a", "b"}}, {Name: "Other", Sheet: 1, Row: 9, Rows: 1, Cols: []string{"a"}}},
		Rules:  []api.Rule{{Area: api.Area{Rows: 9, Cols: 9}, Formula: "=A1>1", Style: 5}, {Area: api.Area{Sheet: 1, Rows: 1, Cols: 1}, Formula: "=B1", Must: true}},
	}
}

func changed(change func(b *api.Book)) api.Book {
	b := good()
	change(&b)
	return b
}

func set(sheet int, row int, col int, s string) api.Op {
	return api.Op{Kind: api.OpSet, Sheet: sheet, Row: row, Col: col, S: s}
}
func rowsIn(sheet int, row int, n int) api.Op {
	return api.Op{Kind: api.OpRowsIn, Sheet: sheet, Row: row, N: n}
}
func rowsOut(sheet int, row int, n int) api.Op {
	return api.Op{Kind: api.OpRowsOut, Sheet: sheet, Row: row, N: n}
}
func colsIn(sheet int, col int, n int) api.Op {
	return api.Op{Kind: api.OpColsIn, Sheet: sheet, Col: col, N: n}
}
func colsOut(sheet int, col int, n int) api.Op {
	return api.Op{Kind: api.OpColsOut, Sheet: sheet, Col: col, N: n}
}
func sheetIn(name string) api.Op { return api.Op{Kind: api.OpSheetIn, Name: name} }
func sheetOut(sheet int) api.Op  { return api.Op{Kind: api.OpSheetOut, Sheet: sheet} }
func rename(sheet int, name string) api.Op {
	return api.Op{Kind: api.OpRename, Sheet: sheet, Name: name}
}
func name(sheet int, name string, s string) api.Op {
	return api.Op{Kind: api.OpName, Sheet: sheet, Name: name, S: s}
}
func table(t api.Table) api.Op   { return api.Op{Kind: api.OpTable, Table: t} }
func noTable(name string) api.Op { return api.Op{Kind: api.OpNoTable, Name: name} }
func rule(r api.Rule) api.Op     { return api.Op{Kind: api.OpRule, Rule: r} }
func noRule(n int) api.Op        { return api.Op{Kind: api.OpNoRule, N: n} }

func aTable() api.Table {
	return api.Table{Name: "New", Sheet: 1, Row: 20, Col: 2, Rows: 3, Cols: []string{"x", "Y z"}}
}

func aRule() api.Rule {
	return api.Rule{Area: api.Area{Sheet: 1, Row: 199, Col: 51, Rows: 1, Cols: 1}, Formula: "=A1", Style: 99}
}

// rights are right operations, of each kind, at the edges of their fields.
func rights() []api.Op {
	most := strings.Repeat("x", 30)
	must, wide := aRule(), aTable()
	must.Style, must.Must = 0, true
	wide.Name, wide.Row, wide.Col, wide.Rows, wide.Cols, wide.Sheet = most, 0, 0, 199, nil, 7
	for i := range 52 {
		wide.Cols = append(wide.Cols, "c"+strconv.Itoa(i))
	}
	return []api.Op{
		set(0, 0, 0, ""), set(7, 199, 51, "=1+2"), set(0, 1, 1, "x"), set(0, 1, 1, "'=x"), set(0, 1, 1, strings.Repeat("x", 200)),
		rowsIn(0, 0, 200), rowsIn(7, 199, 1), rowsOut(0, 0, 1), rowsOut(7, 100, 100), colsIn(0, 0, 52), colsIn(7, 51, 1), colsOut(0, 0, 1), colsOut(7, 26, 26),
		sheetIn("New"), sheetIn("It's"), sheetIn(most), sheetOut(0), sheetOut(7), rename(0, "S"), rename(7, most),
		name(-1, "x", ""), name(0, "x", "=A1"), name(7, most, "= 1"), name(-1, "x.1", "=A1"), table(aTable()), table(wide), noTable("x"), noTable(most), rule(aRule()), rule(must), noRule(0), noRule(19),
	}
}

// wrongs are operations that are not right.
func wrongs() []api.Op {
	list := []api.Op{{}, {Kind: -1}, {Kind: 16}, {Kind: api.OpUndo}, {Kind: api.OpRedo}, {Kind: math.MaxInt}, {Kind: math.MinInt}}
	for _, n := range []int{-1, 8, math.MinInt, math.MaxInt} {
		list = append(list, set(n, 0, 0, ""), rowsIn(n, 0, 1), rowsOut(n, 0, 1), colsIn(n, 0, 1), colsOut(n, 0, 1), sheetOut(n), rename(n, "V"))
	}
	for _, n := range []int{-2, 8, math.MinInt, math.MaxInt} {
		list = append(list, name(n, "x", "=1"), name(n, "x", ""))
	}
	for _, n := range []int{-1, 200, math.MinInt, math.MaxInt} {
		list = append(list, set(0, n, 0, ""), set(0, 0, n, "1"), rowsIn(0, n, 1), rowsOut(0, n, 1), colsIn(0, n, 1), colsOut(0, n, 1), noRule(n))
	}
	for _, n := range []int{0, -1, 201, math.MinInt, math.MaxInt} {
		list = append(list, rowsIn(0, 0, n), rowsOut(0, 0, n), colsIn(0, 0, n), colsOut(0, 0, n), rowsIn(0, 199, n), colsOut(0, 51, n))
	}
	list = append(list, set(0, 0, 52, ""), rowsIn(0, 1, 200), rowsOut(0, 199, 2), colsIn(0, 1, 52), colsOut(0, 51, 2), colsIn(0, 0, 53), noRule(20))
	for _, s := range []string{"=", "=1+", "\x00", "\xff", strings.Repeat("x", 201), "=" + strings.Repeat("1", 16), "'" + strings.Repeat("x", 200)} {
		list = append(list, set(0, 0, 0, s), name(-1, "x", s))
	}
	list = append(list, name(-1, "x", "1"), name(-1, "x", "x"))
	for _, s := range []string{"", strings.Repeat("x", 31), "\xff", "\n"} {
		list = append(list, sheetIn(s), rename(0, s), name(-1, s, "=1"), name(-1, s, ""), noTable(s))
	}
	for _, s := range []string{"A1", "true", "1x", "a b", "a$"} {
		list = append(list, name(-1, s, "=1"), noTable(s))
	}
	for _, change := range []func(t *api.Table){
		func(t *api.Table) { t.Name = "" }, func(t *api.Table) { t.Name = "A1" }, func(t *api.Table) { t.Rows = 0 }, func(t *api.Table) { t.Rows = math.MaxInt }, func(t *api.Table) { t.Rows = 180 }, func(t *api.Table) { t.Cols = nil }, func(t *api.Table) { t.Cols = []string{"x", "X"} }, func(t *api.Table) { t.Cols = []string{"x", "a."} }, func(t *api.Table) { t.Col = 51 }, func(t *api.Table) { t.Sheet = 8 }, func(t *api.Table) { t.Sheet = -1 }, func(t *api.Table) { t.Row = -1 },
	} {
		t := aTable()
		change(&t)
		list = append(list, table(t))
	}
	for _, change := range []func(r *api.Rule){
		func(r *api.Rule) { r.Style = 0 }, func(r *api.Rule) { r.Style = 100 }, func(r *api.Rule) { r.Must = true }, func(r *api.Rule) { r.Formula = "A1" }, func(r *api.Rule) { r.Formula = "" }, func(r *api.Rule) { r.Area = api.Area{} }, func(r *api.Rule) { r.Area.Rows = 2 }, func(r *api.Rule) { r.Area.Sheet = 8 }, func(r *api.Rule) { r.Area.Sheet = -1 },
	} {
		r := aRule()
		change(&r)
		list = append(list, rule(r))
	}
	return append(list, more()...)
}

// fields are what an operation of each kind may have beside its Kind, as more names them.
func fields() map[int]string {
	return map[int]string{
		api.OpSet: "sheet row col s", api.OpRowsIn: "sheet row n", api.OpRowsOut: "sheet row n", api.OpColsIn: "sheet col n", api.OpColsOut: "sheet col n", api.OpSheetIn: "name", api.OpSheetOut: "sheet", api.OpRename: "sheet name",
		api.OpName: "sheet name s", api.OpTable: "table", api.OpNoTable: "name", api.OpRule: "rule", api.OpNoRule: "n",
	}
}

// more are right operations with one more field that their kind has none of.
func more() []api.Op {
	var list []api.Op
	for _, o := range rights() {
		for field, add := range map[string]func(o *api.Op){
			"sheet": func(o *api.Op) { o.Sheet = 1 }, "row": func(o *api.Op) { o.Row = 1 }, "col": func(o *api.Op) { o.Col = 1 }, "n": func(o *api.Op) { o.N = 1 }, "s": func(o *api.Op) { o.S = "=1" }, "name": func(o *api.Op) { o.Name = "x" },
			"table": func(o *api.Op) { o.Table = aTable() }, "rule": func(o *api.Op) { o.Rule = aRule() },
		} {
			if strings.Contains(" "+fields()[o.Kind]+" ", " "+field+" ") {
				continue
			}
			x := o
			add(&x)
			list = append(list, x)
		}
		if o.Kind != api.OpTable {
			for _, t := range []api.Table{{Name: "x"}, {Sheet: 1}, {Row: 1}, {Col: 1}, {Rows: 1}, {Cols: []string{""}}} {
				o.Table = t
				list = append(list, o)
			}
			o.Table = api.Table{}
		}
		if o.Kind != api.OpRule {
			for _, r := range []api.Rule{{Area: api.Area{Rows: 1}}, {Formula: "x"}, {Style: 1}, {Must: true}} {
				o.Rule = r
				list = append(list, o)
			}
		}
	}
	return list
}
