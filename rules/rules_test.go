package rules_test

import (
	"slices"
	"strings"
	"testing"

	"tabula/api"
	"tabula/book"
	"tabula/calc"
	"tabula/ref"
	"tabula/rules"
	"tabula/val"
)

// P22.1: where rules are true, and which of them gives the style.
func TestStyles(t *testing.T) {
	const cells = "A1: 1 | A2: 2 | A3: 3 | B1: true | B2: x | B3: #N/A | C1: ={1;0;2} | T!A1: 5 | T!B2: 2 | T!D2: a | T!D3: 2 | T!D4: 1"
	for _, c := range []struct {
		rules []string
		want  string
	}{
		{nil, ""},
		{[]string{"A1:A3 5 =A1>1"}, "A2 5 | A3 5"},
		{[]string{"A1:A3 5 =$A$2>1"}, "A1 5 | A2 5 | A3 5"},
		{[]string{"A1:A3 5 =A$2>1"}, "A1 5 | A2 5 | A3 5"},
		{[]string{"A1:B2 5 =$A1>1"}, "A2 5 | B2 5"},
		{[]string{"A2:B3 5 =A$1=1"}, "A2 5 | A3 5"},
		{[]string{"A2:A3 5 =A1=1"}, "A2 5"},
		{[]string{"A1:A3 5 =A1>2", "A1:A3 99 =A1>1", "A2:A2 1 =TRUE"}, "A2 99 | A3 5"},
		{[]string{"A1:A3 5 =A1>2", "A1:A3 0 =A1>0"}, "A3 5"},
		{[]string{"A1:A3 0 =A1>0"}, ""},
		{[]string{"B1:B3 5 =B1"}, "B1 5"},
		{[]string{"A1:D1 5 =A1"}, "A1 5 | B1 5 | C1 5"},
		{[]string{"C1:C4 5 =C1"}, "C1 5 | C3 5"},
		{[]string{"A1:A3 5 =A1*{0,1}"}, ""},
		{[]string{"A1:A3 5 =A1*{1,0}"}, "A1 5 | A2 5 | A3 5"},
		{[]string{"A1:A2 5 =A1:B2"}, "A1 5 | A2 5"},
		{[]string{"A1:A2 5 =LAMBDA(x,TRUE)", "A1:A2 6 =LAMBDA(x,TRUE)(1)"}, "A1 6 | A2 6"},
		{[]string{"A1:A2 5 =1/0", "A1:A2 5 =#REF!", "A1:A2 5 =\"yes\"", "A1:A2 5 =nothing", "A1:A2 5 =\"\"", "A1:A2 5 =Z9"}, ""},
		{[]string{"A1:A2 5 =\"TRUE\""}, "A1 5 | A2 5"},
		{[]string{"A198:A200 5 =ISERROR(A199)"}, "A200 5"},
		{[]string{"A198:A200 5 =ISERROR(SUM(A198:A199))"}, "A200 5"},
		{[]string{"AY1:AZ1 5 =ISERROR(AZ1)"}, "AZ1 5"},
		{[]string{"AY1:AZ1 5 =ISERROR($AZ1)"}, ""},
		{[]string{"A199:A200 5 =ISERROR(A$200)"}, ""},
		{[]string{"A1:A3 5 =A1>rate"}, "A3 5"},
		{[]string{"A1:A3 5 =own"}, ""},
		{[]string{"T!A1:A3 5 =own"}, "T!A1 5 | T!A2 5 | T!A3 5"},
		{[]string{"A1:A3 5 =above(A1,rate-1)"}, "A2 5 | A3 5"},
		{[]string{"A1:A3 5 =A1=SUM(Tab[a])"}, "A3 5"},
		{[]string{"A1:A3 5 =much", "A1:A3 6 =-much", "A1:A3 7 =much+0"}, "A1 5 | A2 5 | A3 5"},
		{[]string{"A1:A2 5 =IF(TRUE,TRUE,SUM(f" + strings.Repeat(",f", 18) + "))"}, "A1 5 | A2 5"},
		{[]string{"A1:A2 5 =IF(TRUE,TRUE,SUM(f" + strings.Repeat(",f", 19) + "))"}, ""},
		{[]string{"A1:A3 5 =T!A1=5"}, "A1 5"},
		{[]string{"T!A1:A3 5 =A1=5", "A3:A3 7 =TRUE", "A1:A1 9 =TRUE"}, "A1 9 | A3 7 | T!A1 5"},
		{[]string{"T!A1:A3 5 =S!A1=2"}, "T!A2 5"},
		{[]string{"T!A1:A3 5 =Q!A1=2", "T!A1:A1 6 =ISERROR(Q!A1)"}, "T!A1 6"},
		{[]string{"A1:A3 5 =A1=NOW()"}, "A2 5"},
		{[]string{"A1:A2 5 =LET(x,A1,y,LAMBDA(z,z*A2),y(x)>3)"}, "A2 5"},
	} {
		b := with(t, sheets(t, cells), c.rules...)
		if got := styles(t, b, api.Dec{M: 2}); got != c.want {
			t.Errorf("%q: %s; want %s", c.rules, got, c.want)
		}
		if l := stylesOf(b, api.Dec{M: 2}); written(b, l) != c.want {
			t.Errorf("%q by words: %s; want %s", c.rules, written(b, l), c.want)
		}
	}
}

// P22.2: what may be put in.
func TestMay(t *testing.T) {
	const cells = "A1: 1 | A2: =B2*2 | A3: x | B2: 2 | T!B2: 7"
	for _, c := range []struct {
		rules []string
		place string
		input string
		want  bool
	}{
		{nil, "B4", "10", true},
		{[]string{"B1:B9 0 =B1<10"}, "B4", "9", true},
		{[]string{"B1:B9 0 =B1<10"}, "B4", "10", false},
		{[]string{"B1:B9 0 =B1<10"}, "B4", "=A1*9", true},
		{[]string{"B1:B9 0 =B1<10"}, "B4", "=A1*10", false},
		{[]string{"B1:B9 0 =B1<10"}, "B4", "=1/0", false},
		{[]string{"B1:B9 0 =B1<10"}, "C4", "10", true},
		{[]string{"B1:B9 0 =B1<10"}, "B10", "10", true},
		{[]string{"B1:B9 0 =B1<10"}, "T!B4", "10", true},
		{[]string{"T!B1:B9 0 =B1<10"}, "T!B4", "10", false},
		{[]string{"B1:B9 5 =B1<10"}, "B4", "10", true},
		{[]string{"B1:B9 0 =B1<10", "B1:B9 0 =B1>5"}, "B4", "5", false},
		{[]string{"B1:B9 0 =B1<10", "B1:B9 0 =B1>5"}, "B4", "10", false},
		{[]string{"B1:B9 0 =B1<10", "B1:B9 0 =B1>5"}, "B4", "6", true},
		{[]string{"B1:B9 0 =B1>0"}, "B2", "", false},
		{[]string{"B1:B9 0 =B1<1"}, "B2", "", true},
		{[]string{"B1:B9 0 =A1<10"}, "B2", "4", true},
		{[]string{"B1:B9 0 =A1<10"}, "B2", "5", false},
		{[]string{"A1:A9 0 =ISNUMBER(A1)"}, "A1", "2", true},
		{[]string{"B1:B9 0 =B1={1,2}"}, "B4", "1", true},
		{[]string{"B1:B9 0 =B1={1,2}"}, "B4", "2", false},
		{[]string{"B1:B9 0 =B2=2"}, "B3", "={1;2}", true},
		{[]string{"B1:B9 0 =B1=NOW()"}, "B3", "3", true},
		{[]string{"B1:B9 0 =B1=NOW()"}, "B3", "4", false},
		{[]string{"B1:B9 0 =B1<rate"}, "B3", "6", true},
		{[]string{"B1:B9 0 =B1<rate"}, "B3", "7", false},
		{[]string{"B1:B9 0 =-much"}, "B3", "7", false},
		{[]string{"B199:B200 0 =B198=0"}, "B200", "7", true},
		{[]string{"B199:B200 0 =ISERROR(B2)"}, "B200", "7", false},
		{[]string{"B2:B200 0 =ISERROR(B3)"}, "B200", "7", true},
	} {
		b := with(t, sheets(t, cells), c.rules...)
		may, err := rules.May(b, at(t, b, c.place), c.input, api.Dec{M: 3})
		if may != c.want || err != api.OK || may != mayBe(b, at(t, b, c.place), c.input, api.Dec{M: 3}) {
			t.Errorf("%q at %s, of %q: %v, error %d", c.input, c.place, c.rules, may, err)
		}
	}
}

// P22.1, P22.2: what is wrong, in its order.
func TestWrong(t *testing.T) {
	good := with(t, sheets(t, "A1: 1"), "A1:A9 0 =FALSE", "A1:A9 5 =TRUE")
	bad := with(t, sheets(t, "A1: 1"), "A1:A9 5 =1+")
	for _, now := range []api.Dec{{M: 10}, {E: 1}, {M: 1, E: 10}, {M: api.MaxDigit + 1}} {
		if l, err := rules.Styles(good, now); len(l) > 0 || err != api.ErrArg {
			t.Errorf("Styles at %v: %v, error %d", now, l, err)
		}
		if may, err := rules.May(good, api.At{Row: -1}, "=1+", now); may || err != api.ErrArg {
			t.Errorf("May at %v: %v, error %d", now, may, err)
		}
		if l, err := rules.Styles(bad, now); len(l) > 0 || err != api.ErrRule {
			t.Errorf("Styles of a wrong workbook: %v, error %d", l, err)
		}
		if may, err := rules.May(bad, api.At{Row: -1}, "=1+", now); may || err != api.ErrRule {
			t.Errorf("May of a wrong workbook: %v, error %d", may, err)
		}
	}
	if l, err := rules.Styles(api.Book{}, api.Dec{}); len(l) > 0 || err != api.ErrLimit {
		t.Errorf("Styles of no workbook: %v, error %d", l, err)
	}
	for _, place := range []api.At{{Sheet: 2}, {Sheet: -1}, {Row: 200}, {Row: -1}, {Col: 52}, {Col: -1}} {
		if may, err := rules.May(good, place, "=1+", api.Dec{}); may || err != api.ErrArg {
			t.Errorf("May at %+v: %v, error %d", place, may, err)
		}
	}
	for _, input := range []string{"=1+", "=", "\x00", "\xff"} {
		if may, err := rules.May(good, api.At{Col: 5}, input, api.Dec{}); may || err != api.ErrCell {
			t.Errorf("May of %q: %v, error %d", input, may, err)
		}
	}
	full := good
	full.Sheets = []api.Sheet{{Name: "S"}, {Name: "T"}}
	for i := range 400 {
		full.Sheets[0].Cells = append(full.Sheets[0].Cells, api.Cell{Row: i / 40, Col: i % 40, Input: "1"})
	}
	if may, err := rules.May(full, api.At{Row: 50}, "1", api.Dec{}); may || err != api.ErrLimit {
		t.Errorf("May of one cell too many: %v, error %d", may, err)
	}
	if may, err := rules.May(full, api.At{Row: 9, Col: 39}, "2", api.Dec{}); !may || err != api.OK {
		t.Errorf("May of as many cells as there may be: %v, error %d", may, err)
	}
}

// P22.1 to P22.3 held against the chapter's words; and what follows of them.
func TestMany(t *testing.T) {
	d, some := dice(1), 0
	for range 120 {
		b := sheets(t, d.cells())
		for range 1 + d.below(4) {
			b = with(t, b, d.rule())
		}
		before := with(t, b)
		now := api.Dec{M: 4 + d.below(2)}
		got := styles(t, b, now)
		if want := written(b, stylesOf(b, now)); got != want {
			t.Fatalf("%+v: %s; want %s", b, got, want)
		}
		if got != "" {
			some++
		}
		place := api.At{Sheet: d.below(2), Row: d.below(3), Col: d.below(3)}
		input := d.one("1", "2", "", "=A1", "x")
		if may, err := rules.May(b, place, input, now); may != mayBe(b, place, input, now) || err != api.OK {
			t.Fatalf("%q at %+v of %+v: %v, error %d", input, place, b, may, err)
		}
		if !book.Same(b, before) {
			t.Fatalf("what was handed in is another one")
		}
		follows(t, &d, b, got, now)
	}
	if some < 50 {
		t.Errorf("only %d workbooks have styles", some)
	}
}

// follows checks P22.3 of a workbook and its styles.
func follows(t *testing.T, d *dice, b api.Book, got string, now api.Dec) {
	t.Helper()
	i := d.below(len(b.Rules))
	parted := b
	parted.Rules = slices.Concat(b.Rules[:i], parts(d, b.Rules[i]), b.Rules[i+1:])
	if l := styles(t, parted, now); l != got {
		t.Fatalf("%+v parted as %+v: %s; want %s", b, parted.Rules, l, got)
	}
	none := b
	none.Rules = nil
	with, _ := calc.Values(b, now)
	without, _ := calc.Values(none, now)
	if !slices.EqualFunc(with, without, func(x, y api.Shown) bool { return x.At == y.At && val.Same(x.V, y.V) }) {
		t.Fatalf("rules change what %+v shows", b)
	}
	if may, err := rules.May(none, api.At{}, "x", now); !may || err != api.OK {
		t.Fatalf("without rules something may not be put in: error %d", err)
	}
}

// parts are a rule's first rows and its others, or its first columns and its others.
func parts(d *dice, r api.Rule) []api.Rule {
	first, rest := r, r
	rows, cols := 0, 0
	if d.below(2) == 0 {
		rows = d.below(r.Area.Rows)
		first.Area.Rows = rows
	} else {
		cols = d.below(r.Area.Cols)
		first.Area.Cols = cols
	}
	rest.Area.Row, rest.Area.Col = r.Area.Row+rows, r.Area.Col+cols
	rest.Area.Rows, rest.Area.Cols = r.Area.Rows-rows, r.Area.Cols-cols
	if rows == 0 && cols == 0 {
		return []api.Rule{r}
	}
	rest.Formula = further(r.Formula, rows, cols)
	return []api.Rule{first, rest}
}

// P22.3: a rule that reads its cell alone hangs on what that shows alone.
func TestOwnCell(t *testing.T) {
	a, b := sheets(t, "A1: 3 | B1: 7 | C1: 9"), sheets(t, "A1: 9 | B1: =3 | C1: x")
	first, second := styles(t, with(t, a, "A1:C1 5 =A1=9"), api.Dec{}), styles(t, with(t, b, "A1:C1 5 =A1=9"), api.Dec{})
	if first != "C1 5" || second != "A1 5" {
		t.Errorf("%s; %s", first, second)
	}
}

// Styles are told of as many places as there are, each once, in order.
func TestWholeSheet(t *testing.T) {
	b := with(t, sheets(t, "A1: 1"), "T!A1:AZ200 7 =S!A1=0", "A1:AZ200 8 =A1=0")
	l, err := rules.Styles(b, api.Dec{})
	if len(l) != 2*api.MaxRows*api.MaxCols-2 || err != api.OK || l[0] != (api.Style{At: api.At{Col: 1}, Style: 8}) || l[len(l)-1] != (api.Style{At: api.At{Sheet: 1, Row: 199, Col: 51}, Style: 7}) {
		t.Fatalf("%d styles, error %d", len(l), err)
	}
	for i := range l[1:] {
		a := l[i].At
		if ref.Has(api.Area{Sheet: a.Sheet, Row: a.Row, Col: a.Col, Rows: 1, Cols: 1}, l[i+1].At) || a.Sheet > l[i+1].At.Sheet {
			t.Fatalf("%+v stands ahead of %+v", a, l[i+1].At)
		}
	}
}
