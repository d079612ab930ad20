package rules_test

import (
	"strconv"
	"strings"
	"testing"

	"tabula/api"
	"tabula/book"
	"tabula/ref"
	"tabula/rules"
)

// at is a place told as `A1`, or `T!A1`.
func at(t *testing.T, b api.Book, place string) api.At {
	t.Helper()
	r, err := ref.Read(place)
	if err != api.OK {
		t.Fatalf("%s: error %d", place, err)
	}
	sheet, _ := book.Sheet(b, r.Sheet)
	return api.At{Sheet: sheet, Row: r.Row, Col: r.Col}
}

// sheets is a workbook of two sheets, with names and a table, and cells told as `A1: input | T!B1: input`.
func sheets(t *testing.T, cells string) api.Book {
	t.Helper()
	b := api.Book{
		Sheets: []api.Sheet{{Name: "S"}, {Name: "T"}},
		Names: []api.Name{
			{Name: "rate", Sheet: -1, Input: "=T!B2"},
			{Name: "own", Sheet: 0, Input: "=A1>1"},
			{Name: "own", Sheet: 1, Input: "=B2>1"},
			{Name: "above", Sheet: -1, Input: "=LAMBDA(x,y,x>y)"},
			{Name: "f", Sheet: -1, Input: "=LAMBDA(1)"},
			{Name: "much", Sheet: -1, Input: "=" + strings.Repeat("-", 19) + "1"},
		},
		Tables: []api.Table{{Name: "Tab", Sheet: 1, Row: 1, Col: 3, Rows: 2, Cols: []string{"a", "b"}}},
	}
	for _, s := range strings.Split(cells, " | ") {
		place, input, found := strings.Cut(s, ": ")
		if !found {
			continue
		}
		set, err := book.Set(b, at(t, b, place), input)
		if err != api.OK {
			t.Fatalf("%s: error %d", s, err)
		}
		b = set
	}
	return b
}

// with is a workbook with rules told as `A1:B2 5 =formula`, of the sheet T as `T!A1:B2 5 =formula`; of style 0 they must be so.
func with(t *testing.T, b api.Book, list ...string) api.Book {
	t.Helper()
	for _, s := range list {
		parts := strings.SplitN(s, " ", 3)
		from, to, _ := strings.Cut(parts[0], ":")
		first, last := at(t, b, from), at(t, b, to)
		style, _ := strconv.Atoi(parts[1])
		b.Rules = append(b.Rules, api.Rule{
			Area:    api.Area{Sheet: first.Sheet, Row: first.Row, Col: first.Col, Rows: last.Row - first.Row + 1, Cols: last.Col - first.Col + 1},
			Formula: parts[2], Style: style, Must: style == 0,
		})
	}
	return b
}

func written(b api.Book, l []api.Style) string {
	var parts []string
	for _, s := range l {
		place, _ := ref.Text(api.Ref{Row: s.At.Row, Col: s.At.Col})
		if s.At.Sheet > 0 {
			place = b.Sheets[s.At.Sheet].Name + "!" + place
		}
		parts = append(parts, place+" "+strconv.Itoa(s.Style))
	}
	return strings.Join(parts, " | ")
}

func styles(t *testing.T, b api.Book, now api.Dec) string {
	t.Helper()
	l, err := rules.Styles(b, now)
	if err != api.OK {
		t.Fatalf("Styles of %+v: error %d", b, err)
	}
	return written(b, l)
}

// dice are numbers that look like chance, and are the same in each run.
type dice uint64

func (d *dice) below(n int) int {
	*d = *d*6364136223846793005 + 1442695040888963407
	return int(uint64(*d)>>33) % n
}

func (d *dice) one(list ...string) string { return list[d.below(len(list))] }

func (d *dice) cell() string {
	return d.one("", "", "$") + d.one("A", "B", "C") + d.one("", "", "$") + strconv.Itoa(1+d.below(4))
}

func (d *dice) cells() string {
	var list []string
	for _, place := range []string{"A1", "B1", "C1", "A2", "B2", "B3", "T!A1", "T!B2", "T!A3"} {
		input := d.one("1", "2", "3", "0", "x", "true", "#N/A", "=A1+1", "=C1", "=SEQUENCE(2)", "=NOW()", "='T'!B2&1")
		list = append(list, place+": "+input)
	}
	return strings.Join(list, " | ")
}

func (d *dice) formula() string {
	a, b := d.one("", "", "", "T!", "S!")+d.cell(), d.cell()
	return "=" + d.one(a+">1", a+"="+b, a, "SUM("+a+":"+b+")>3", "ISERROR(SUM("+a+":C199))", "LET(x,"+a+",x>"+b+")", "own", "rate>"+b, "above("+a+",1)", a+":"+b+">1", "-much", "SUM(Tab[a])<"+a, "NOW()>4", "LAMBDA(x,x)", "TRUE", "iserror("+b+")", "A198=\"\"", "#REF!", "ISERROR(#REF!)")
}

func (d *dice) rule() string {
	row, rows := 1+d.below(3), d.below(3)
	if d.below(8) == 0 {
		row = 198
	}
	col := d.below(3)
	cols := []string{"A", "B", "C", "D", "E"}
	area := cols[col] + strconv.Itoa(row) + ":" + cols[col+d.below(3)] + strconv.Itoa(row+rows)
	return d.one("", "", "T!") + area + " " + d.one("1", "2", "99", "0") + " " + d.formula()
}
