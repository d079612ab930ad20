package shift_test

import (
	"slices"
	"strconv"
	"strings"
	"testing"

	"tabula/api"
	"tabula/book"
	"tabula/ref"
	"tabula/tree"
)

func rowsIn(at int, n int) api.Shift { return api.Shift{Kind: api.ShRowsIn, Sheet: "S", At: at, N: n} }
func rowsOut(at int, n int) api.Shift {
	return api.Shift{Kind: api.ShRowsOut, Sheet: "S", At: at, N: n}
}
func colsIn(at int, n int) api.Shift { return api.Shift{Kind: api.ShColsIn, Sheet: "S", At: at, N: n} }
func colsOut(at int, n int) api.Shift {
	return api.Shift{Kind: api.ShColsOut, Sheet: "S", At: at, N: n}
}
func rename(from string, to string) api.Shift {
	return api.Shift{Kind: api.ShRename, Sheet: from, Name: to}
}
func gone(sheet string) api.Shift { return api.Shift{Kind: api.ShGone, Sheet: sheet} }

func read(t *testing.T, formula string) api.Node {
	t.Helper()
	n, _, err := tree.Read(formula)
	if err != api.OK {
		t.Fatalf("%s: error %d", formula, err)
	}
	return n
}

func print(n api.Node) string {
	s, err := tree.Print(n)
	if err != api.OK {
		return "none"
	}
	return s
}

// sheets is a workbook of the sheets S, T and `Two x`, with cells told as `A1: input | T!B1: input`.
func sheets(t *testing.T, cells string) api.Book {
	t.Helper()
	b := api.Book{Sheets: []api.Sheet{{Name: "S"}, {Name: "T"}, {Name: "Two x"}}}
	for _, s := range strings.Split(cells, " | ") {
		place, input, found := strings.Cut(s, ": ")
		if !found {
			continue
		}
		r, _ := ref.Read(place)
		sheet, _ := book.Sheet(b, r.Sheet)
		set, err := book.Set(b, api.At{Sheet: sheet, Row: r.Row, Col: r.Col}, input)
		if err != api.OK {
			t.Fatalf("%s: error %d", s, err)
		}
		b = set
	}
	return b
}

// written is a workbook as a text, a line for each thing.
func written(b api.Book) string {
	var lines []string
	place := func(sheet int, row int, col int) string {
		at, _ := ref.Text(api.Ref{Sheet: "_" + strconv.Itoa(sheet), Row: row, Col: col})
		return at
	}
	for i, sheet := range b.Sheets {
		lines = append(lines, "sheet "+sheet.Name)
		for _, c := range sheet.Cells {
			lines = append(lines, place(i, c.Row, c.Col)+": "+c.Input)
		}
	}
	for _, n := range b.Names {
		lines = append(lines, "name "+strconv.Itoa(n.Sheet)+" "+n.Name+": "+n.Input)
	}
	for _, t := range b.Tables {
		lines = append(lines, "table "+t.Name+" "+place(t.Sheet, t.Row, t.Col)+" "+strconv.Itoa(t.Rows)+" "+strings.Join(t.Cols, ","))
	}
	for _, r := range b.Rules {
		a := r.Area
		lines = append(lines, "rule "+place(a.Sheet, a.Row, a.Col)+" "+strconv.Itoa(a.Rows)+" "+strconv.Itoa(a.Cols)+": "+r.Formula+" "+strconv.Itoa(r.Style)+" "+strconv.FormatBool(r.Must))
	}
	return strings.Join(lines, "\n")
}

// move is where a number moves: none, if it is gone.
func move(s api.Shift, n int) []int {
	isIn := s.Kind == api.ShRowsIn || s.Kind == api.ShColsIn
	switch {
	case n < s.At:
		return []int{n}
	case isIn:
		return []int{n + s.N}
	case n < s.At+s.N:
		return nil
	}
	return []int{n - s.N}
}

// hull is from the least to the greatest number that some numbers move to, as far as the sheet goes; false, if none is left, or all are beyond it.
func hull(s api.Shift, from int, to int, count int) (int, int, bool) {
	var left []int
	for n := from; n <= to; n++ {
		left = append(left, move(s, n)...)
	}
	if len(left) == 0 || slices.Min(left) >= count {
		return 0, 0, false
	}
	return slices.Min(left), min(slices.Max(left), count-1), true
}

func isRows(s api.Shift) bool { return s.Kind == api.ShRowsIn || s.Kind == api.ShRowsOut }
func isCols(s api.Shift) bool { return s.Kind == api.ShColsIn || s.Kind == api.ShColsOut }

// goneAlong is what P17.1 says of a tree.
func goneAlong(n api.Node, own string, s api.Shift) api.Node {
	kids := n.Kids
	n.Kids = nil
	for _, kid := range kids {
		n.Kids = append(n.Kids, goneAlong(kid, own, s))
	}
	if n.Kind == api.NRef && !n.Ref.Bad {
		n.To = n.Ref
	} else if n.Kind != api.NRange {
		return n
	}
	sheet := n.Ref.Sheet
	if sheet == "" {
		sheet = own
	}
	isOn, stays := strings.EqualFold(sheet, s.Sheet), true
	across := func(a *int, b *int, count int) {
		less, more := a, b
		if *a > *b {
			less, more = b, a
		}
		*less, *more, stays = hull(s, *less, *more, count)
	}
	switch {
	case isOn && isRows(s):
		across(&n.Ref.Row, &n.To.Row, 200)
	case isOn && isCols(s):
		across(&n.Ref.Col, &n.To.Col, 52)
	case isOn && s.Kind == api.ShRename && n.Ref.Sheet != "":
		n.Ref.Sheet = s.Name
	case isOn && s.Kind == api.ShGone && n.Ref.Sheet != "":
		stays = false
	}
	if !stays {
		return api.Node{Kind: api.NRef, Ref: api.Ref{Bad: true}}
	}
	if n.Kind == api.NRef {
		n.To = api.Ref{}
	}
	return n
}

// dice are numbers that look like chance, and are the same in each run.
type dice uint64

func (d *dice) below(n int) int {
	*d = *d*6364136223846793005 + 1442695040888963407
	return int(uint64(*d)>>33) % n
}

func (d *dice) one(list ...string) string { return list[d.below(len(list))] }

// number is one near a sheet's beginning, or its end.
func (d *dice) number(count int) int {
	if d.below(4) == 0 {
		return count - 1 - d.below(6)
	}
	return d.below(9)
}

func (d *dice) sheet() string { return d.one("S", "s", "T", "Two x", "U") }

func (d *dice) shift() api.Shift {
	s := api.Shift{Kind: 1 + d.below(6), Sheet: d.sheet()}
	switch {
	case isRows(s):
		s.At = d.number(200)
		s.N = 1 + d.below(min(6, 200-s.At))
	case isCols(s):
		s.At = d.number(52)
		s.N = 1 + d.below(min(6, 52-s.At))
	case s.Kind == api.ShRename:
		s.Name = d.one("V", "It's", "s", "two X", "T")
	}
	return s
}

func (d *dice) ref() api.Ref {
	return api.Ref{Row: d.number(200), Col: d.number(52), FixRow: d.below(3) == 0, FixCol: d.below(3) == 0}
}

func (d *dice) cell() string {
	r := d.ref()
	if d.below(2) == 0 {
		r.Sheet = d.sheet()
	}
	s, _ := ref.Text(r)
	if d.below(12) == 0 {
		return "#REF!"
	}
	return s
}

func (d *dice) span() string {
	s := d.cell()
	if s == "#REF!" {
		return s
	}
	to, _ := ref.Text(d.ref())
	return s + ":" + to
}

func (d *dice) formula() string {
	a, b, c := d.cell(), d.span(), d.cell()
	return d.one(a, a+"+"+c, "SUM("+b+","+c+")", b, "-"+a+"%", "LET(x,"+a+",x+"+c+")", "IF("+a+",{1,2},"+b+")", "LAMBDA(x,x)("+b+")", "Tab[a]+"+a, "Tab[B]&tab[c]", "Other[a]", "x&y", "1")
}
