package calc_test

import (
	"slices"
	"strconv"
	"strings"
	"testing"

	"tabula/api"
	"tabula/book"
	"tabula/calc"
	"tabula/ref"
	"tabula/val"
)

// at is a place told as `A1`, or `T!A1`.
func at(b api.Book, place string) api.At {
	r, _ := ref.Read(place)
	sheet, _ := book.Sheet(b, r.Sheet)
	return api.At{Sheet: sheet, Row: r.Row, Col: r.Col}
}

// sheets is a workbook of two sheets, with names and a table, and cells told as `A1: input | B1: input`.
func sheets(t *testing.T, cells string) api.Book {
	t.Helper()
	b := api.Book{
		Sheets: []api.Sheet{{Name: "S"}, {Name: "T"}},
		Names:  []api.Name{{Name: "rate", Sheet: -1, Input: "=T!B2*2"}, {Name: "fact", Sheet: -1, Input: "=LAMBDA(n,IF(n<2,1,n*fact(n-1)))"}, {Name: "much", Sheet: -1, Input: "=" + strings.Repeat("-", 19) + "1"}},
		Tables: []api.Table{{Name: "Tab", Sheet: 1, Row: 1, Col: 3, Rows: 2, Cols: []string{"a", "b"}}},
	}
	return with(t, b, cells)
}

func with(t *testing.T, b api.Book, cells string) api.Book {
	t.Helper()
	for _, s := range strings.Split(cells, " | ") {
		place, input, found := strings.Cut(s, ": ")
		if !found {
			continue
		}
		set, err := book.Set(b, at(b, place), input)
		if err != api.OK {
			t.Fatalf("%s: error %d", s, err)
		}
		b = set
	}
	return b
}

// written is what is shown, as `A1: value | B1: value`, values as val.Text has them.
func written(b api.Book, l []api.Shown) string {
	var parts []string
	for _, s := range l {
		place, _ := ref.Text(api.Ref{Row: s.At.Row, Col: s.At.Col})
		if s.At.Sheet > 0 {
			place = b.Sheets[s.At.Sheet].Name + "!" + place
		}
		text, _ := val.Text(s.V)
		parts = append(parts, place+": "+text)
	}
	return strings.Join(parts, " | ")
}

// called are places without their sheets.
func called(l []api.At) string {
	var parts []string
	for _, at := range l {
		place, _ := ref.Text(api.Ref{Row: at.Row, Col: at.Col})
		parts = append(parts, place)
	}
	return strings.Join(parts, " ")
}

func sameMemos(a []api.Memo, b []api.Memo) bool {
	return slices.EqualFunc(a, b, func(x, y api.Memo) bool {
		return x.At == y.At && x.Text == y.Text && x.Timed == y.Timed && x.Now == y.Now && sameShown(x.Reads, y.Reads) && slices.Equal(x.Areas, y.Areas) && val.Same(x.V, y.V)
	})
}

// check holds all calls against the oracle, with what was told ahead, and answers what is told now.
func check(t *testing.T, b api.Book, now api.Dec, given []api.Memo) []api.Memo {
	t.Helper()
	o := oracle{b: b, now: now, given: given}
	o.calculate()
	want := o.shown()
	l, told, asked, err := calc.With(b, now, given)
	if !sameShown(l, want) || err != api.OK {
		t.Fatalf("With of %v: %s, error %d; want %s", b, written(b, l), err, written(b, want))
	}
	if !sameMemos(told, o.told) {
		t.Fatalf("With of %v: memos\n%v\nwant\n%v", b, told, o.told)
	}
	if !slices.Equal(asked, o.asked) {
		t.Fatalf("With of %v: asked %v; want %v", b, asked, o.asked)
	}
	if l, err := calc.Values(b, now); !sameShown(l, want) || err != api.OK {
		t.Fatalf("Values of %v: %s, error %d", b, written(b, l), err)
	}
	return told
}

// dice are numbers that look like chance, and are the same in each run; how many rows and columns are used; and whether formulas often go round.
type dice struct {
	n     uint64
	size  int
	loops bool
}

func (d *dice) below(n int) int {
	d.n = d.n*6364136223846793005 + 1442695040888963407
	return int(d.n>>33) % n
}

func (d *dice) one(list ...string) string { return list[d.below(len(list))] }

func (d *dice) cell() string {
	return string(rune('A'+d.below(d.size))) + strconv.Itoa(1+d.below(d.size))
}

func (d *dice) formula() string {
	a, b, c := d.one("", "", "", "T!", "S!")+d.cell(), d.cell(), d.cell()
	if d.loops {
		return d.one(a, a+"+1", "MIN("+a+"+1,"+d.one("3", "9", "18", "19", "20", "30")+")", "IF("+a+"="+b+","+c+",1)", "1-"+a, "SUM("+a+":"+b+")", "IF("+a+"=0,{1,2},{3;4;5})", a+":"+b, "COUNT("+a+":"+b+")+1")
	}
	return d.one(a, a, a+"+1", a+"+"+b, a+"*"+b, "SUM("+a+":"+b+")", a+":"+b, "IF("+a+">2,"+b+","+c+")", "{1,2;3,4}", "{1;2}", "{5}", "SEQUENCE("+a+")", "SEQUENCE(1,"+b+")", "NOW()", "NOW()+"+a, "IF("+a+",1,{1,2})", "IFERROR("+a+",3)", "MIN("+a+"+1,5)", "LAMBDA(x,x)", "rate", "fact("+a+")", "much", "-much", "SUM(Tab[a])", "Tab[b]", "LET(x,"+a+",x&x)", "1/0", "TRANSPOSE("+a+":"+b+")", "COUNT("+a+":"+b+")", "A1:D4+1")
}

func (d *dice) input() string {
	return d.one("1", "2", "3", "0", "x", "TRUE", "#N/A", "'", "="+d.formula(), "="+d.formula(), "="+d.formula(), "="+d.formula(), "="+d.formula())
}

func (d *dice) place() api.At {
	return api.At{Sheet: d.below(3) / 2, Row: d.below(d.size), Col: d.below(d.size)}
}
