package shift_test

import (
	"math"
	"slices"
	"strconv"
	"strings"
	"testing"

	"tabula/api"
	"tabula/book"
	"tabula/calc"
	"tabula/shift"
	"tabula/tree"
	"tabula/val"
)

// some is a workbook with something of each kind.
func some(t *testing.T) api.Book {
	b := sheets(t, "A1: x | B3: = s!b3+T!A1 | C3: 5 | C9: =SUM(Tab[a])+Tab[b]+Other[a] | T!A1: =S!B3+A1 | T!B9: =SUM(S!A1:C9)")
	b.Sheets[2].Cells = []api.Cell{{Input: "=S!C3&'two X'!A2"}}
	b.Names = []api.Name{{Name: "n", Sheet: -1, Input: "=S!$B$3+Tab[b]"}, {Name: "m", Sheet: 0, Input: "=B3"}, {Name: "n", Sheet: 1, Input: "=B3+S!C9"}, {Name: "k", Sheet: 2, Input: "= 1"}}
	b.Tables = []api.Table{{Name: "Other", Sheet: 1, Row: 4, Col: 4, Rows: 3, Cols: []string{"a", "c"}}, {Name: "Tab", Sheet: 0, Row: 4, Col: 4, Rows: 3, Cols: []string{"a", "B", "c"}}, {Name: "Third", Sheet: 2, Row: 0, Col: 0, Rows: 1, Cols: []string{"a"}}}
	b.Rules = []api.Rule{{Area: api.Area{Sheet: 0, Row: 2, Col: 1, Rows: 3, Cols: 2}, Formula: "=B3>1", Style: 3}, {Area: api.Area{Sheet: 1, Row: 2, Col: 1, Rows: 3, Cols: 2}, Formula: "=S!B3>Tab[c]", Must: true}, {Area: api.Area{Sheet: 2, Rows: 200, Cols: 52}, Formula: "=A1", Style: 99}}
	return b
}

// changed takes the lines of a text by their beginnings (or wholly, with `$` behind), and puts others in their places; a line that is empty then is gone.
func changed(text string, lines ...string) string {
	var list []string
	for _, line := range strings.Split(text, "\n") {
		for i := 0; i < len(lines); i += 2 {
			if strings.HasPrefix(line+"$", lines[i]) {
				line = lines[i+1]
				break
			}
		}
		if line != "" {
			list = append(list, line)
		}
	}
	return strings.Join(list, "\n")
}

func checkBook(t *testing.T, b api.Book, s api.Shift, want string) {
	t.Helper()
	before := written(b)
	got, err := shift.Book(b, s)
	if written(got) != want || err != api.OK {
		t.Errorf("by %+v:\n%s\nerror %d; want\n%s", s, written(got), err, want)
	}
	if _, wrong := book.Check(got); wrong != api.OK && err == api.OK {
		t.Errorf("by %+v: error %d of what comes of it", s, wrong)
	}
	if written(b) != before {
		t.Errorf("by %+v what was handed in is another one", s)
	}
}

// P17.3: edits of a workbook with something of each kind.
func TestBook(t *testing.T) {
	b := some(t)
	text := written(b)
	checkBook(t, b, rowsIn(2, 3), changed(text,
		"_0!B3", "_0!B6: =s!B6+T!A1", "_0!C3", "_0!C6: 5", "_0!C9", "_0!C12: =SUM(Tab[a])+Tab[b]+Other[a]",
		"_1!A1", "_1!A1: =S!B6+A1", "_1!B9", "_1!B9: =SUM(S!A1:C12)", "_2!A1", "_2!A1: =S!C6&'two X'!A2",
		"name -1", "name -1 n: =S!$B$6+Tab[b]", "name 0", "name 0 m: =B6", "name 1", "name 1 n: =B3+S!C12",
		"table Tab", "table Tab _0!E8 3 a,B,c", "rule _0", "rule _0!B6 3 2: =B6>1 3 false", "rule _1", "rule _1!B3 3 2: =S!B6>Tab[c] 0 true"))
	checkBook(t, b, rowsOut(2, 1), changed(text,
		"_0!B3", "", "_0!C3", "", "_0!C9", "_0!C8: =SUM(Tab[a])+Tab[b]+Other[a]",
		"_1!A1", "_1!A1: =#REF!+A1", "_1!B9", "_1!B9: =SUM(S!A1:C8)", "_2!A1", "_2!A1: =#REF!&'two X'!A2",
		"name -1", "name -1 n: =#REF!+Tab[b]", "name 0", "name 0 m: =#REF!", "name 1", "name 1 n: =B3+S!C8",
		"table Tab", "table Tab _0!E4 3 a,B,c", "rule _0", "rule _0!B3 2 2: =#REF!>1 3 false", "rule _1", "rule _1!B3 3 2: =#REF!>Tab[c] 0 true"))
	checkBook(t, b, colsIn(2, 1), changed(text,
		"_0!C3", "_0!D3: 5", "_0!C9", "_0!D9: =SUM(Tab[a])+Tab[b]+Other[a]", "_1!B9", "_1!B9: =SUM(S!A1:D9)", "_2!A1", "_2!A1: =S!D3&'two X'!A2",
		"name 1", "name 1 n: =B3+S!D9", "table Tab", "table Tab _0!F5 3 a,B,c", "rule _0", "rule _0!B3 3 3: =B3>1 3 false"))
	checkBook(t, b, colsOut(5, 1), changed(text, "_0!C9", "_0!C9: =SUM(Tab[a])+#REF!+Other[a]", "name -1", "name -1 n: =S!$B$3+#REF!", "table Tab", "table Tab _0!E5 3 a,c"))
	checkBook(t, b, colsOut(4, 3), changed(text, "_0!C9", "_0!C9: =SUM(#REF!)+#REF!+Other[a]", "name -1", "name -1 n: =S!$B$3+#REF!", "table Tab", "", "rule _1", "rule _1!B3 3 2: =S!B3>#REF! 0 true"))
	checkBook(t, b, rename("s", "New 1"), changed(text, "sheet S", "sheet New 1", "_0!B3", "_0!B3: ='New 1'!B3+T!A1", "_1!A1", "_1!A1: ='New 1'!B3+A1", "_1!B9", "_1!B9: =SUM('New 1'!A1:C9)", "_2!A1", "_2!A1: ='New 1'!C3&'two X'!A2",
		"name -1", "name -1 n: ='New 1'!$B$3+Tab[b]", "name 1", "name 1 n: =B3+'New 1'!C9", "rule _1", "rule _1!B3 3 2: ='New 1'!B3>Tab[c] 0 true"))
	checkBook(t, b, rename("S", "s"), changed(text, "sheet S", "sheet s", "_1!A1", "_1!A1: =s!B3+A1", "_1!B9", "_1!B9: =SUM(s!A1:C9)", "_2!A1", "_2!A1: =s!C3&'two X'!A2",
		"name -1", "name -1 n: =s!$B$3+Tab[b]", "name 1", "name 1 n: =B3+s!C9", "rule _1", "rule _1!B3 3 2: =s!B3>Tab[c] 0 true"))
	checkBook(t, b, gone("S"), changed(text, "sheet S", "", "_0!", "", "_1!A1", "_0!A1: =#REF!+A1", "_1!B9", "_0!B9: =SUM(#REF!)", "_2!A1", "_1!A1: =#REF!&'two X'!A2",
		"name -1", "name -1 n: =#REF!+#REF!", "name 0", "", "name 1", "name 0 n: =B3+#REF!", "name 2", "name 1 k: = 1", "table Tab", "", "table Other", "table Other _0!E5 3 a,c", "table Third", "table Third _1!A1 1 a",
		"rule _0", "", "rule _1", "rule _0!B3 3 2: =#REF!>#REF! 0 true", "rule _2", "rule _1!A1 200 52: =A1 99 false"))
	checkBook(t, b, gone("t"), changed(text, "sheet T$", "", "_1!", "", "_0!B3", "_0!B3: =s!B3+#REF!", "_0!C9", "_0!C9: =SUM(Tab[a])+Tab[b]+#REF!", "_2!A1", "_1!A1: =S!C3&'two X'!A2",
		"name 1", "", "name 2", "name 1 k: = 1", "table Other", "", "table Third", "table Third _1!A1 1 a", "rule _1", "", "rule _2", "rule _1!A1 200 52: =A1 99 false"))
}

// P17.3: a workbook of one sheet, and what is written like a column that is lost.
func TestOneSheet(t *testing.T) {
	b := api.Book{Sheets: []api.Sheet{{Name: "S", Cells: []api.Cell{{Row: 1, Input: "=\"Tab[a]\"&A3&Tab[A]"}, {Row: 2, Input: "=\"Tab[a]\""}}}}, Tables: []api.Table{{Name: "Tab", Row: 5, Col: 2, Rows: 1, Cols: []string{"a"}}}}
	text := written(b)
	checkBook(t, b, rowsIn(2, 1), changed(text, "_0!A2", "_0!A2: =\"Tab[a]\"&A4&Tab[A]", "_0!A3", "_0!A4: =\"Tab[a]\"", "table", "table Tab _0!C7 1 a"))
	checkBook(t, b, colsOut(2, 1), changed(text, "_0!A2", "_0!A2: =\"Tab[a]\"&A3&#REF!", "table", ""))
	checkBook(t, b, rename("s", "V"), changed(text, "sheet S", "sheet V"))
}

// P17.3: what goes along of a table, and what is wrong.
func TestTables(t *testing.T) {
	for _, c := range []struct {
		s    api.Shift
		want string
		err  api.Errno
	}{
		{rowsIn(4, 2), "_0!E7 3 a,b,c", 0}, {rowsIn(5, 2), "_0!E5 5 a,b,c", 0}, {rowsIn(7, 2), "_0!E5 5 a,b,c", 0}, {rowsIn(8, 2), "_0!E5 3 a,b,c", 0}, {rowsIn(0, 192), "_0!E197 3 a,b,c", 0}, {rowsIn(0, 193), "", api.ErrEdge}, {rowsIn(6, 192), "_0!E5 195 a,b,c", 0}, {rowsIn(6, 193), "", api.ErrEdge}, {rowsIn(8, 192), "_0!E5 3 a,b,c", 0},
		{rowsOut(0, 4), "_0!E1 3 a,b,c", 0}, {rowsOut(0, 5), "none", 0}, {rowsOut(4, 1), "none", 0}, {rowsOut(5, 1), "_0!E5 2 a,b,c", 0}, {rowsOut(5, 2), "_0!E5 1 a,b,c", 0}, {rowsOut(5, 3), "none", 0}, {rowsOut(6, 9), "_0!E5 1 a,b,c", 0}, {rowsOut(7, 1), "_0!E5 2 a,b,c", 0}, {rowsOut(8, 1), "_0!E5 3 a,b,c", 0}, {rowsOut(5, 195), "none", 0},
		{colsIn(4, 2), "_0!G5 3 a,b,c", 0}, {colsIn(5, 1), "", api.ErrShift}, {colsIn(6, 1), "", api.ErrShift}, {colsIn(7, 1), "_0!E5 3 a,b,c", 0}, {colsIn(0, 45), "_0!AX5 3 a,b,c", 0}, {colsIn(0, 46), "", api.ErrEdge},
		{colsOut(0, 2), "_0!C5 3 a,b,c", 0}, {colsOut(3, 2), "_0!D5 3 b,c", 0}, {colsOut(4, 1), "_0!E5 3 b,c", 0}, {colsOut(5, 1), "_0!E5 3 a,c", 0}, {colsOut(6, 3), "_0!E5 3 a,b", 0}, {colsOut(2, 4), "_0!C5 3 c", 0}, {colsOut(4, 3), "none", 0}, {colsOut(3, 9), "none", 0}, {colsOut(7, 1), "_0!E5 3 a,b,c", 0},
		{rename("S", "V"), "_0!E5 3 a,b,c", 0}, {gone("T"), "_0!E5 3 a,b,c", 0}, {gone("S"), "none", 0},
	} {
		b := sheets(t, "")
		b.Tables = []api.Table{{Name: "Tab", Row: 4, Col: 4, Rows: 3, Cols: []string{"a", "b", "c"}}}
		want := changed(written(b), "table", "table Tab "+c.want)
		switch {
		case c.err != api.OK:
			if got, err := shift.Book(b, c.s); !book.Same(got, api.Book{}) || err != c.err {
				t.Errorf("by %+v: %s, error %d; want error %d", c.s, written(got), err, c.err)
			}
			continue
		case c.want == "none":
			want = changed(written(b), "table", "")
		}
		switch c.s.Kind {
		case api.ShRename:
			want = changed(want, "sheet S", "sheet V")
		case api.ShGone:
			want = changed(want, "sheet "+c.s.Sheet+"$", "")
		}
		checkBook(t, b, c.s, want)
	}
	for i, c := range []struct {
		tables []api.Table
		s      api.Shift
		err    api.Errno
	}{
		{[]api.Table{{Name: "U", Col: 51, Rows: 1, Cols: []string{"a"}}, {Name: "V", Col: 1, Rows: 1, Cols: []string{"a", "b"}}}, colsIn(2, 1), api.ErrEdge},
		{[]api.Table{{Name: "V", Col: 1, Rows: 1, Cols: []string{"a", "b"}}, {Name: "U", Col: 51, Rows: 1, Cols: []string{"a"}}}, colsIn(2, 1), api.ErrShift},
		{[]api.Table{{Name: "V", Sheet: 1, Col: 1, Rows: 1, Cols: []string{"a", "b"}}, {Name: "U", Col: 51, Rows: 1, Cols: []string{"a"}}}, colsIn(2, 1), api.ErrEdge},
		{[]api.Table{{Name: "V", Sheet: 1, Col: 1, Rows: 1, Cols: []string{"a", "b"}}, {Name: "U", Sheet: 1, Col: 51, Rows: 1, Cols: []string{"a"}}}, colsIn(2, 1), api.OK},
		{[]api.Table{{Name: "V", Row: 198, Rows: 1, Cols: []string{"a", "b"}}}, rowsIn(199, 1), api.ErrEdge},
		{[]api.Table{{Name: "V", Row: 197, Rows: 1, Cols: []string{"a", "b"}}}, rowsIn(199, 1), api.OK},
	} {
		b := sheets(t, "")
		b.Tables = c.tables
		if _, err := shift.Book(b, c.s); err != c.err {
			t.Errorf("tables %d: error %d; want %d", i, err, c.err)
		}
	}
}

// P17.3: what goes along of a rule.
func TestRules(t *testing.T) {
	for _, c := range []struct {
		s    api.Shift
		want string
	}{
		{rowsIn(0, 1), "_0!C4 4 3"}, {rowsIn(2, 1), "_0!C4 4 3"}, {rowsIn(3, 1), "_0!C3 5 3"}, {rowsIn(5, 1), "_0!C3 5 3"}, {rowsIn(6, 1), "_0!C3 4 3"}, {rowsIn(0, 197), "_0!C200 1 3"}, {rowsIn(0, 198), ""}, {rowsIn(4, 196), "_0!C3 198 3"},
		{rowsOut(0, 2), "_0!C1 4 3"}, {rowsOut(0, 3), "_0!C1 3 3"}, {rowsOut(2, 4), ""}, {rowsOut(3, 2), "_0!C3 2 3"}, {rowsOut(4, 9), "_0!C3 2 3"}, {rowsOut(6, 1), "_0!C3 4 3"}, {rowsOut(0, 200), ""},
		{colsIn(1, 1), "_0!D3 4 3"}, {colsIn(3, 2), "_0!C3 4 5"}, {colsIn(0, 49), "_0!AZ3 4 1"}, {colsIn(0, 50), ""}, {colsOut(2, 2), "_0!C3 4 1"}, {colsOut(2, 3), ""}, {colsOut(3, 40), "_0!C3 4 1"}, {colsOut(0, 1), "_0!B3 4 3"},
	} {
		b := sheets(t, "")
		b.Rules = []api.Rule{{Area: api.Area{Row: 2, Col: 2, Rows: 4, Cols: 3}, Formula: "=1", Style: 1}, {Area: api.Area{Sheet: 1, Row: 2, Col: 2, Rows: 4, Cols: 3}, Formula: "=1", Style: 2}}
		line := "rule " + c.want + ": =1 1 false"
		if c.want == "" {
			line = ""
		}
		checkBook(t, b, c.s, changed(written(b), "rule _0", line))
	}
}

// P17.3: the errors of workbooks and of edits, in their order.
func TestBookWrong(t *testing.T) {
	b, bad := some(t), some(t)
	bad.Rules[0].Style = 0
	one := api.Book{Sheets: []api.Sheet{{Name: "S"}}}
	check := func(b api.Book, s api.Shift, want api.Errno) {
		t.Helper()
		if got, err := shift.Book(b, s); !book.Same(got, api.Book{}) || err != want {
			t.Errorf("by %+v: error %d; want %d", s, err, want)
		}
	}
	for _, s := range wrongs() {
		check(b, s, api.ErrShift)
		check(bad, s, api.ErrRule)
		check(api.Book{}, s, api.ErrLimit)
	}
	for _, s := range rights() {
		check(bad, s, api.ErrRule)
	}
	for _, s := range []api.Shift{rename("S", "T"), rename("S", "t"), rename("T", "two X"), rename("U", "V"), gone("U"), {Kind: api.ShRowsIn, Sheet: "U", N: 1}, {Kind: api.ShColsOut, Sheet: "'S'", N: 1}} {
		check(b, s, api.ErrShift)
	}
	check(one, gone("S"), api.ErrShift)
	check(one, gone("s"), api.ErrShift)
	edge := sheets(t, "A200: 1 | AZ1: 2 | T!A199: 3")
	for _, s := range []api.Shift{rowsIn(0, 1), rowsIn(199, 1), colsIn(0, 1), colsIn(51, 1), {Kind: api.ShRowsIn, Sheet: "T", At: 5, N: 2}} {
		check(edge, s, api.ErrEdge)
	}
	for _, s := range []api.Shift{{Kind: api.ShRowsIn, Sheet: "T", N: 1}, {Kind: api.ShRowsIn, Sheet: "T", At: 199, N: 1}, {Kind: api.ShColsIn, Sheet: "T", N: 51}, rowsOut(0, 200), {Kind: api.ShRowsIn, Sheet: "Two x", N: 200}} {
		if _, err := shift.Book(edge, s); err != api.OK {
			t.Errorf("by %+v: error %d", s, err)
		}
	}
	edge.Tables = []api.Table{{Name: "V", Row: 9, Col: 1, Rows: 1, Cols: []string{"a", "b"}}}
	check(edge, colsIn(2, 1), api.ErrEdge)
}

// P17.3: formulas that are too long behind an edit; those that are gone with it are not asked.
func TestLong(t *testing.T) {
	pad := func(formula string) string { return formula + "&\"" + strings.Repeat("x", 197-len(formula)) + "\"" }
	for i, c := range []struct {
		change func(b *api.Book)
		s      api.Shift
		err    api.Errno
	}{
		{func(b *api.Book) { b.Sheets[0].Cells = []api.Cell{{Input: pad("=A99")}} }, rowsIn(50, 1), api.ErrShift},
		{func(b *api.Book) { b.Sheets[0].Cells = []api.Cell{{Input: pad("=A98")}} }, rowsIn(50, 1), api.OK},
		{func(b *api.Book) { b.Sheets[0].Cells = []api.Cell{{Input: pad("=A99")}, {Col: 1, Input: "=A99"}} }, rowsIn(50, 1), api.ErrShift},
		{func(b *api.Book) { b.Sheets[1].Cells = []api.Cell{{Input: pad("=S!A99")}} }, rowsIn(50, 1), api.ErrShift},
		{func(b *api.Book) { b.Sheets[1].Cells = []api.Cell{{Input: pad("=S!A99")}} }, gone("T"), api.OK},
		{func(b *api.Book) { b.Sheets[1].Cells = []api.Cell{{Input: pad("=S!A9")}} }, rename("S", "Long"), api.ErrShift},
		{func(b *api.Book) { b.Sheets[1].Cells = []api.Cell{{Input: pad("=S!A9")}} }, gone("S"), api.ErrShift},
		{func(b *api.Book) { b.Sheets[1].Cells = []api.Cell{{Input: pad("=S!$A$9")}} }, gone("S"), api.OK},
		{func(b *api.Book) { b.Names = []api.Name{{Name: "n", Sheet: -1, Input: pad("=S!A99")}} }, rowsIn(50, 1), api.ErrShift},
		{func(b *api.Book) { b.Names = []api.Name{{Name: "n", Sheet: 0, Input: pad("=A99")}} }, rowsIn(50, 1), api.ErrShift},
		{func(b *api.Book) { b.Names = []api.Name{{Name: "n", Sheet: 1, Input: pad("=A99")}} }, rowsIn(50, 1), api.OK},
		{func(b *api.Book) {
			b.Rules = []api.Rule{{Area: api.Area{Rows: 1, Cols: 1}, Formula: pad("=A99"), Style: 1}}
		}, rowsIn(50, 1), api.ErrShift},
		{func(b *api.Book) {
			b.Rules = []api.Rule{{Area: api.Area{Row: 150, Rows: 1, Cols: 1}, Formula: pad("=A99"), Style: 1}}
		}, rowsIn(50, 49), api.ErrShift},
		{func(b *api.Book) {
			b.Rules = []api.Rule{{Area: api.Area{Row: 150, Rows: 1, Cols: 1}, Formula: pad("=A99"), Style: 1}}
		}, rowsIn(50, 50), api.OK},
		{func(b *api.Book) {
			b.Tables = []api.Table{{Name: "Tab", Row: 5, Col: 4, Rows: 3, Cols: []string{"abcdefgh"}}}
			b.Sheets[0].Cells = []api.Cell{{Input: pad("=E1+Tab[abcdefgh]")}}
		}, colsOut(4, 1), api.OK},
		{func(b *api.Book) {
			b.Tables = []api.Table{{Name: "T", Row: 5, Col: 4, Rows: 3, Cols: []string{"a"}}}
			b.Sheets[0].Cells = []api.Cell{{Input: pad("=T[a]")}}
		}, colsOut(4, 1), api.ErrShift},
	} {
		b := sheets(t, "")
		c.change(&b)
		if _, wrong := book.Check(b); wrong != api.OK {
			t.Fatalf("case %d is wrong: error %d", i, wrong)
		}
		if got, err := shift.Book(b, c.s); err != c.err || err != api.OK && !book.Same(got, api.Book{}) {
			t.Errorf("case %d: error %d; want %d", i, err, c.err)
		}
	}
}

// edited is what P17.3 says of tables and rules, by the rows and columns that are left of them, one by one; false, if it is not told here.
func edited(b api.Book, s api.Shift) (api.Book, bool) {
	on, _ := book.Sheet(b, s.Sheet)
	var e api.Book
	for i, sheet := range b.Sheets {
		e.Sheets = append(e.Sheets, api.Sheet{Name: sheet.Name})
		for _, c := range sheet.Cells {
			rows, cols := []int{c.Row}, []int{c.Col}
			if i == on && isRows(s) {
				rows = move(s, c.Row)
			} else if i == on {
				cols = move(s, c.Col)
			}
			if len(rows)*len(cols) == 1 {
				e.Sheets[i].Cells = append(e.Sheets[i].Cells, api.Cell{Row: rows[0], Col: cols[0], Input: c.Input})
			}
		}
	}
	for _, t := range b.Tables {
		if t.Sheet == on {
			var rows, cols []int
			var names []string
			for row := t.Row; row <= t.Row+t.Rows; row++ {
				if !isRows(s) {
					rows = append(rows, row)
				} else if rows = append(rows, move(s, row)...); row == t.Row && len(rows) == 0 {
					break
				}
			}
			for i, name := range t.Cols {
				to := []int{t.Col + i}
				if isCols(s) {
					to = move(s, t.Col+i)
				}
				cols = append(cols, to...)
				names = append(names, slices.Repeat([]string{name}, len(to))...)
			}
			if len(rows) < 2 || len(cols) == 0 {
				continue
			}
			if cols[len(cols)-1]-cols[0] != len(cols)-1 {
				return b, false
			}
			t.Row, t.Rows, t.Col, t.Cols = rows[0], rows[len(rows)-1]-rows[0], cols[0], names
		}
		e.Tables = append(e.Tables, t)
	}
	for _, r := range b.Rules {
		a, stays, last := &r.Area, true, 0
		if a.Sheet == on && isRows(s) {
			a.Row, last, stays = hull(s, a.Row, a.Row+a.Rows-1, 200)
			a.Rows = last - a.Row + 1
		} else if a.Sheet == on {
			a.Col, last, stays = hull(s, a.Col, a.Col+a.Cols-1, 52)
			a.Cols = last - a.Col + 1
		}
		if stays {
			e.Rules = append(e.Rules, r)
		}
	}
	e.Names = slices.Clone(b.Names)
	return e, true
}

// formulas takes all formulas along that are left; the columns that are lost, too.
func formulas(b api.Book, e *api.Book, s api.Shift) {
	has := func(b api.Book, column string) bool {
		return slices.ContainsFunc(b.Tables, func(t api.Table) bool {
			return slices.ContainsFunc(t.Cols, func(name string) bool { return strings.EqualFold(t.Name+"["+name+"]", column) })
		})
	}
	var lose func(n api.Node) api.Node
	lose = func(n api.Node) api.Node {
		if n.Kind == api.NCol && has(b, n.S) && !has(*e, n.S) {
			return api.Node{Kind: api.NRef, Ref: api.Ref{Bad: true}}
		}
		for i := range n.Kids {
			n.Kids[i] = lose(n.Kids[i])
		}
		return n
	}
	along := func(input *string, own string) {
		if (*input)[0] != '=' {
			return
		}
		n, _, _ := tree.Read((*input)[1:])
		if m := lose(goneAlong(n, own, s)); !tree.Same(n, m) {
			*input = "=" + print(m)
		}
	}
	for _, sheet := range e.Sheets {
		for j := range sheet.Cells {
			along(&sheet.Cells[j].Input, sheet.Name)
		}
	}
	for i := range e.Names {
		own := ""
		if e.Names[i].Sheet >= 0 {
			own = e.Sheets[e.Names[i].Sheet].Name
		}
		along(&e.Names[i].Input, own)
	}
	for i := range e.Rules {
		along(&e.Rules[i].Formula, e.Sheets[e.Rules[i].Area.Sheet].Name)
	}
}

func (d *dice) book(t *testing.T) api.Book {
	b := sheets(t, "")
	for range d.below(12) {
		b, _ = book.Set(b, api.At{Sheet: d.below(3), Row: d.number(200), Col: d.number(52)}, d.one("1", "x", "="+d.formula(), "= "+d.formula()))
	}
	for i := range d.below(4) {
		b.Names = append(b.Names, api.Name{Name: "n." + strconv.Itoa(i), Sheet: d.below(4) - 1, Input: "=" + d.formula()})
	}
	for i, name := range []string{"Tab", "Other"} {
		b.Tables = append(b.Tables, api.Table{Name: name, Sheet: d.below(2), Row: d.below(8), Col: 6*i + d.below(3), Rows: 1 + d.below(4), Cols: []string{"a", "B", "c"}[:1+d.below(3)]})
	}
	for range d.below(4) {
		a := api.Area{Sheet: d.below(3), Row: d.number(200), Col: d.number(52)}
		a.Rows, a.Cols = 1+d.below(min(6, 200-a.Row)), 1+d.below(min(5, 52-a.Col))
		b.Rules = append(b.Rules, api.Rule{Area: a, Formula: "=" + d.formula(), Style: 1})
	}
	if _, err := book.Check(b); err != api.OK {
		return sheets(t, "A1: =B2")
	}
	return b
}

// P17.3: workbooks of all sorts, held against the rows and columns that are left, one by one.
func TestBookMany(t *testing.T) {
	d, told, edges := dice(2), 0, 0
	for range 6000 {
		b, s := d.book(t), d.shift()
		got, err := shift.Book(b, s)
		if _, found := book.Sheet(b, s.Sheet); !found || !isRows(s) && !isCols(s) {
			continue
		}
		want, told1 := edited(b, s)
		if !told1 {
			if err != api.ErrShift && err != api.ErrEdge {
				t.Fatalf("by %+v of\n%s\nerror %d", s, written(b), err)
			}
			continue
		}
		formulas(b, &want, s)
		if _, wrong := book.Check(want); wrong != api.OK {
			edges++
			if err != api.ErrEdge {
				t.Fatalf("by %+v of\n%s\nerror %d", s, written(b), err)
			}
			continue
		}
		told++
		if !book.Same(got, want) || err != api.OK {
			t.Fatalf("by %+v of\n%s\n\n%s\nerror %d; want\n%s", s, written(b), written(got), err, written(want))
		}
	}
	if told < 1000 || edges < 100 {
		t.Errorf("%d edits are done, %d go beyond the edge", told, edges)
	}
}

// P17.4: what is put in and taken out again leaves what there was, but for formulas that are written otherwise; a reference reads the cell that it read.
func TestWhatFollows(t *testing.T) {
	d, done := dice(3), 0
	for range 800 {
		b := sheets(t, "")
		for row := range 12 {
			for col := range 4 {
				b, _ = book.Set(b, api.At{Row: row, Col: col}, strconv.Itoa(100*row+col+1))
			}
		}
		for range 6 {
			at := api.At{Sheet: 1 + d.below(2), Row: d.below(9), Col: d.below(9)}
			b, _ = book.Set(b, at, "=S!"+string(rune('A'+d.below(5)))+strconv.Itoa(1+d.below(13)))
		}
		s := d.shift()
		s.Sheet = d.one("S", "S", s.Sheet)
		if s.Kind == api.ShGone {
			s.Sheet = "U"
		}
		got, err := shift.Book(b, s)
		if err != api.OK {
			continue
		}
		done++
		before, _ := calc.Values(b, api.Dec{})
		after, _ := calc.Values(got, api.Dec{})
		checkReads(t, b, s, before, after)
		back := s
		back.Kind = map[int]int{api.ShRowsIn: api.ShRowsOut, api.ShColsIn: api.ShColsOut}[s.Kind]
		if back.Kind == 0 {
			continue
		}
		if again, err := shift.Book(got, back); !book.Same(again, b) || err != api.OK {
			t.Fatalf("by %+v and back:\n%s\nerror %d; want\n%s", s, written(again), err, written(b))
		}
	}
	if done < 200 {
		t.Errorf("only %d edits are done", done)
	}
}

// checkReads looks for what the formulas of other sheets show: the same number, or #REF! where that is gone.
func checkReads(t *testing.T, b api.Book, s api.Shift, before []api.Shown, after []api.Shown) {
	t.Helper()
	left := map[api.Dec]bool{}
	on, _ := book.Sheet(b, s.Sheet)
	var then []api.Val
	for _, x := range after {
		if x.At.Sheet == 0 {
			left[x.V.N] = true
		} else {
			then = append(then, x.V)
		}
	}
	for _, x := range before {
		if x.At.Sheet == 0 {
			continue
		}
		if on > 0 && (isRows(s) && len(move(s, x.At.Row)) == 0 && x.At.Sheet == on || isCols(s) && len(move(s, x.At.Col)) == 0 && x.At.Sheet == on) {
			continue
		}
		want := x.V
		if !left[x.V.N] {
			want = api.Val{Kind: api.Fault, Err: api.VRef}
		}
		if i := slices.IndexFunc(then, func(v api.Val) bool { return val.Same(v, want) }); i < 0 {
			t.Fatalf("by %+v: %v shows nothing like %v any more of\n%s", s, then, want, written(b))
		}
	}
}

// P17.4: an input that reads nothing of the edit's sheet stays as it is; numbers at their ends do not run over.
func TestOthers(t *testing.T) {
	b := sheets(t, "T!A1: = s!A1 + a2 | T!B1: = A1 +  B9 | T!C1: =#ref! | S!D1: = T!A1")
	for _, s := range []api.Shift{rowsIn(5, 9), rowsOut(1, 3), colsIn(9, 1), colsOut(9, 9)} {
		got, err := shift.Book(b, s)
		if err != api.OK || !book.Same(got, b) {
			t.Errorf("by %+v:\n%s\nerror %d", s, written(got), err)
		}
	}
	whole := sheets(t, "")
	whole.Rules = []api.Rule{{Area: api.Area{Rows: 200, Cols: 52}, Formula: "=1", Style: 1}}
	for _, s := range []api.Shift{rowsIn(1, 199), colsIn(1, 51)} {
		if got, err := shift.Book(whole, s); !book.Same(got, whole) || err != api.OK {
			t.Errorf("by %+v:\n%s\nerror %d", s, written(got), err)
		}
	}
	for _, n := range []int{math.MinInt, math.MaxInt, -1} {
		if got, err := shift.Book(whole, rowsIn(n, n)); !book.Same(got, api.Book{}) || err != api.ErrShift {
			t.Errorf("by %d: error %d", n, err)
		}
	}
}
