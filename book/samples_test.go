package book_test

import (
	"math"
	"strconv"
	"strings"

	"tabula/api"
)

// good is a right workbook with something of each kind.
func good() api.Book {
	return api.Book{
		Sheets: []api.Sheet{
			{Name: "S", Cells: []api.Cell{{Row: 0, Col: 0, Input: "2"}, {Row: 0, Col: 1, Input: "=A1*3"}, {Row: 199, Col: 51, Input: "'x"}}},
			{Name: "Two x", Cells: []api.Cell{{Row: 3, Col: 2, Input: "=S!A1+Rate"}, {Row: 4, Col: 0, Input: "#N/A"}}},
			{Name: "It's"},
		},
		Names: []api.Name{
			{Name: "Rate", Sheet: -1, Input: "=S!$A$1*2"},
			{Name: "rate", Sheet: 0, Input: "=A1"},
			{Name: "RATE", Sheet: 2, Input: "=LAMBDA(x,x+B2:C3)"},
			{Name: "_a.1", Sheet: -1, Input: "=#REF!+other+T[a]"},
		},
		Tables: []api.Table{
			{Name: "T", Sheet: 1, Row: 2, Col: 0, Rows: 3, Cols: []string{"a", "b c", "_9"}},
			{Name: "U", Sheet: 1, Row: 2, Col: 3, Rows: 197, Cols: []string{"a"}},
			{Name: "V", Sheet: 0, Row: 198, Col: 51, Rows: 1, Cols: []string{strings.Repeat("x", 30)}},
		},
		Rules: []api.Rule{
			{Area: api.Area{Sheet: 0, Rows: 200, Cols: 52}, Formula: "=A1>1", Style: 1},
			{Area: api.Area{Sheet: 2, Row: 199, Col: 51, Rows: 1, Cols: 1}, Formula: "=nobody", Style: 99},
			{Area: api.Area{Sheet: 1, Rows: 1, Cols: 1}, Formula: "=Gone!A1", Must: true},
		},
	}
}

// changed is the good workbook with a change.
func changed(change func(b *api.Book)) api.Book {
	b := good()
	change(&b)
	return b
}

// cells are so many cells, row by row.
func cells(n int) []api.Cell {
	var list []api.Cell
	for i := range n {
		list = append(list, api.Cell{Row: i / 52, Col: i % 52, Input: "1"})
	}
	return list
}

func names(n int) []api.Name {
	var list []api.Name
	for i := range n {
		list = append(list, api.Name{Name: "n." + strconv.Itoa(i), Sheet: -1, Input: "=1"})
	}
	return list
}

func tables(n int) []api.Table {
	var list []api.Table
	for i := range n {
		list = append(list, api.Table{Name: "t." + strconv.Itoa(i), Row: 2 * i, Rows: 1, Cols: []string{"a"}})
	}
	return list
}

func rules(n int) []api.Rule {
	var list []api.Rule
	for range n {
		list = append(list, api.Rule{Area: api.Area{Rows: 1, Cols: 1}, Formula: "=1", Style: 1})
	}
	return list
}

// fault is a workbook that is not right, with what is told of it.
type fault struct {
	what string
	b    api.Book
	at   api.At
	err  api.Errno
}

func faults() []fault {
	var list []fault
	add := func(what string, at api.At, err api.Errno, change func(b *api.Book)) {
		list = append(list, fault{what, changed(change), at, err})
	}
	limit := func(what string, change func(b *api.Book)) { add(what, api.At{}, api.ErrLimit, change) }
	limit("no sheets", func(b *api.Book) { *b = api.Book{} })
	limit("nine sheets", func(b *api.Book) { b.Sheets = make([]api.Sheet, 9) })
	limit("401 cells", func(b *api.Book) { b.Sheets[2].Cells = cells(396) })
	limit("401 cells of one sheet", func(b *api.Book) { b.Sheets = []api.Sheet{{Cells: make([]api.Cell, 401)}} })
	limit("41 names", func(b *api.Book) { b.Names = make([]api.Name, 41) })
	limit("11 tables", func(b *api.Book) { b.Tables = make([]api.Table, 11) })
	limit("21 rules", func(b *api.Book) { b.Rules = make([]api.Rule, 21) })
	for i, name := range []string{"", "s", "TWO X", strings.Repeat("x", 31), strings.Repeat("é", 16), "\xff", "a\n", "\x7f"} {
		add("sheet's name "+strconv.Itoa(i), api.At{Sheet: 2}, api.ErrSheet, func(b *api.Book) { b.Sheets[2].Name = name })
	}
	cell := func(what string, c api.Cell) {
		add("cell "+what, api.At{Sheet: 1, Row: c.Row, Col: c.Col}, api.ErrCell, func(b *api.Book) { b.Sheets[1].Cells[1] = c })
	}
	for _, n := range []int{-1, math.MinInt, math.MaxInt, 200} {
		cell("row", api.Cell{Row: n, Col: 3, Input: "1"})
		cell("column", api.Cell{Row: 4, Col: n, Input: "1"})
	}
	cell("column 52", api.Cell{Row: 4, Col: 52, Input: "1"})
	cell("behind none", api.Cell{Row: 3, Col: 1, Input: "1"})
	cell("again", api.Cell{Row: 3, Col: 2, Input: "1"})
	cell("ahead", api.Cell{Row: 2, Col: 5, Input: "1"})
	for _, input := range wrongInputs() {
		cell("input "+input, api.Cell{Row: 4, Col: 1, Input: input})
	}
	name := func(what string, i int, n api.Name) {
		add("name "+what, api.At{Row: i}, api.ErrName, func(b *api.Book) { b.Names[i] = n })
	}
	for _, s := range []string{"", "A1", "az200", "TRUE", "false", "1a", ".a", "a b", "a$", "a-b", "é", "a,b", strings.Repeat("x", 31), "Rate[a]", "#REF!"} {
		name(s, 1, api.Name{Name: s, Sheet: -1, Input: "=1"})
	}
	for _, n := range []int{-2, 3, math.MinInt, math.MaxInt} {
		name("of no sheet", 2, api.Name{Name: "x", Sheet: n, Input: "=1"})
	}
	for _, input := range append(wrongFormulas(), "1", "x", "'=1") {
		name("input "+input, 0, api.Name{Name: "x", Sheet: 0, Input: input})
	}
	for _, input := range []string{"=A1", "=1+SUM(2,S!A1,A1)", "=A1:B2", "=LAMBDA(x,x+A1)(1)", "=-$A$1%", "=LET(x,1,A1)", "=S!A1:B2+B2:C3"} {
		name("without a sheet "+input, 3, api.Name{Name: "x", Sheet: -1, Input: input})
	}
	name("again", 3, api.Name{Name: "rAtE", Sheet: -1, Input: "=1"})
	name("again on a sheet", 3, api.Name{Name: "rAtE", Sheet: 2, Input: "=1"})
	return append(list, moreFaults()...)
}

func moreFaults() []fault {
	var list []fault
	table := func(what string, i int, change func(t *api.Table)) {
		list = append(list, fault{"table " + what, changed(func(b *api.Book) { change(&b.Tables[i]) }), api.At{Row: i}, api.ErrTable})
	}
	for _, s := range []string{"", "A1", "true", "1a", "a b", strings.Repeat("x", 31), "rate", "_A.1"} {
		table("name "+s, 0, func(t *api.Table) { t.Name = s })
	}
	table("again", 1, func(t *api.Table) { t.Name = "t" })
	table("again behind", 2, func(t *api.Table) { t.Name = "t" })
	for _, n := range []int{-1, 3, 8, math.MinInt, math.MaxInt} {
		table("sheet", 1, func(t *api.Table) { t.Sheet = n })
	}
	for _, n := range []int{0, -1, 198, math.MinInt, math.MaxInt, math.MaxInt - 1} {
		table("rows", 1, func(t *api.Table) { t.Rows = n })
	}
	for _, n := range []int{-1, 3, 200, math.MinInt, math.MaxInt} {
		table("row", 1, func(t *api.Table) { t.Row = n })
	}
	for _, n := range []int{-1, 50, 52, math.MinInt, math.MaxInt} {
		table("column", 0, func(t *api.Table) { t.Col = n })
	}
	for _, cols := range [][]string{nil, {}, {""}, {"a", ""}, {"a", "b", "A"}, {" a"}, {"a "}, {" "}, {"é"}, {"a.b"}, {"a-b"}, {"a\n"}, {"a]"}, {"\xff"}, {strings.Repeat("x", 31)}, make([]string, 53), make([]string, 100000)} {
		table("columns", 0, func(t *api.Table) { t.Cols = cols })
	}
	table("met", 1, func(t *api.Table) { t.Col = 2 })
	table("met below", 1, func(t *api.Table) { t.Col, t.Row, t.Rows = 0, 5, 1 })
	table("met above", 1, func(t *api.Table) { t.Col, t.Row, t.Rows = 2, 0, 2 })
	rule := func(what string, i int, change func(r *api.Rule)) {
		list = append(list, fault{"rule " + what, changed(func(b *api.Book) { change(&b.Rules[i]) }), api.At{Row: i}, api.ErrRule})
	}
	for _, a := range []api.Area{{}, {Rows: 1}, {Cols: 1}, {Rows: 201, Cols: 1}, {Rows: 1, Cols: 53}, {Row: -1, Rows: 1, Cols: 1}, {Row: 199, Rows: 2, Cols: 1}, {Col: 51, Rows: 1, Cols: 2}, {Sheet: -1, Rows: 1, Cols: 1}, {Sheet: 3, Rows: 1, Cols: 1}, {Sheet: 8, Rows: 1, Cols: 1}, {Row: 1, Rows: math.MaxInt, Cols: 1}} {
		rule("area", 1, func(r *api.Rule) { r.Area = a })
	}
	for _, s := range append(wrongFormulas(), "1", "A1>1") {
		rule("formula "+s, 2, func(r *api.Rule) { r.Formula = s })
	}
	for _, n := range []int{0, -1, 100, math.MinInt, math.MaxInt} {
		rule("style", 0, func(r *api.Rule) { r.Style = n })
	}
	for _, n := range []int{1, -1, 99} {
		rule("style of what must be", 2, func(r *api.Rule) { r.Style = n })
	}
	rule("must", 0, func(r *api.Rule) { r.Must = true })
	rule("must no more", 2, func(r *api.Rule) { r.Must = false })
	return list
}

func wrongFormulas() []string {
	return []string{"", "=", "==", "=1+", "=1 2", "=\"", "=A1:", "= ", "=\xff", "=" + strings.Repeat("1", 16), "=" + strings.Repeat("-", 20) + "1", "=\"" + strings.Repeat("x", 198) + "\"", "=1" + strings.Repeat(" ", 199)}
}

func wrongInputs() []string {
	return append(wrongFormulas(), "\x00", "a\n", "\x7f", "\xff", "'\xff", strings.Repeat("x", 201), "'"+strings.Repeat("x", 200))
}

func rightInputs() []string {
	return []string{"1", "-1.5", "x", " ", "TRUE", "#REF!", "#no", "'", "'=1", "''", "é", "=1", "= 1 ", "=x", "=A1", "=Gone!A1", "=T[a]", "=NOBODY(1)", "=" + strings.Repeat("-", 19) + "1", "=\"" + strings.Repeat("x", 197) + "\"", "=1" + strings.Repeat(" ", 198), strings.Repeat("x", 200), "'" + strings.Repeat("x", 199), strings.Repeat("1", 100), "1e5", "x=1"}
}
