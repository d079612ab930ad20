package recalc_test

import (
	"math"
	"slices"
	"strconv"
	"strings"
	"testing"

	"tabula/api"
	"tabula/book"
	"tabula/calc"
	"tabula/deps"
	"tabula/recalc"
	"tabula/ref"
	"tabula/val"
)

// dice are numbers that look like chance, and are the same in each run.
type dice uint64

func (d *dice) below(n int) int {
	*d = *d*6364136223846793005 + 1442695040888963407
	return int(uint64(*d)>>33) % n
}

func (d *dice) one(list ...string) string { return list[d.below(len(list))] }

func (d *dice) cell() string {
	return string(rune('A'+d.below(4))) + strconv.Itoa(1+d.below(4))
}

// set sets cells told as `A1: input | B1: input`.
func set(t *testing.T, b api.Book, cells string) api.Book {
	t.Helper()
	for _, s := range strings.Split(cells, " | ") {
		place, input, _ := strings.Cut(s, ": ")
		r, _ := ref.Read(place)
		sheet, _ := book.Sheet(b, r.Sheet)
		next, err := book.Set(b, api.At{Sheet: sheet, Row: r.Row, Col: r.Col}, input)
		if err != api.OK {
			t.Fatalf("%s: error %d", s, err)
		}
		b = next
	}
	return b
}

func sheets(names ...string) api.Book {
	var b api.Book
	for _, s := range names {
		b.Sheets = append(b.Sheets, api.Sheet{Name: s})
	}
	return b
}

func sameShown(a []api.Shown, b []api.Shown) bool {
	return slices.EqualFunc(a, b, func(x, y api.Shown) bool { return x.At == y.At && val.Same(x.V, y.V) })
}

// called are places without their sheets.
func called(l []api.At) string {
	var parts []string
	for _, at := range l {
		s, _ := ref.Text(api.Ref{Row: at.Row, Col: at.Col})
		parts = append(parts, s)
	}
	return strings.Join(parts, " ")
}

// P16.1: what is shown, and asked, of one workbook behind the other.
func TestShow(t *testing.T) {
	e, b, all := recalc.New(), sheets("S"), 0
	for _, c := range []struct {
		cells string
		now   int
		asked string
		shown string
	}{
		{"A1: 2 | B1: =A1*3", 0, "B1", "6"}, {"A1: 2", 0, "", "6"}, {"A1: 4", 0, "B1", "12"}, {"A1: 2", 0, "B1", "6"}, {"C1: =B1+NOW()", 0, "C1", "6"}, {"A1: 2", 5, "C1", "6"}, {"A1: 2", 0, "C1", "6"}, {"D1: =A2 | A2: x", 0, "D1", "6"}, {"D1: ", 0, "", "6"}, {"D1: =A2", 0, "D1", "6"}, {"B1: 7", 0, "C1", "7"},
	} {
		b = set(t, b, c.cells)
		asked, err := e.Show(b, api.Dec{M: c.now})
		all += len(asked)
		v, again := e.Value(api.At{Col: 1})
		if s, _ := val.Text(v); called(asked) != c.asked || err != api.OK || again != api.OK || s != c.shown || e.Asked() != all {
			t.Errorf("%s at %d: asked %s, error %d; B1 shows %s, error %d; asked in all %d", c.cells, c.now, called(asked), err, s, again, e.Asked())
		}
	}
}

// P16.1, P16.2: what is wrong changes nothing; an engine that is none, or has shown nothing.
func TestErrors(t *testing.T) {
	var none *recalc.Engine
	good := set(t, sheets("S", "T"), "A1: 2 | B1: =A1")
	if asked, err := none.Show(api.Book{}, api.Dec{M: 10}); len(asked) > 0 || err != api.ErrNil || len(none.Values()) > 0 || none.Asked() != 0 {
		t.Errorf("Show of none: %v, error %d", asked, err)
	}
	if v, err := none.Value(api.At{Row: -1}); !val.Same(v, api.Val{}) || err != api.ErrNil {
		t.Errorf("Value of none: %v, error %d", v, err)
	}
	e := recalc.New()
	bad := []struct {
		b   api.Book
		now api.Dec
		err api.Errno
	}{{api.Book{}, api.Dec{M: 10}, api.ErrLimit}, {sheets("S", "s"), api.Dec{}, api.ErrSheet}, {good, api.Dec{M: 10}, api.ErrArg}, {good, api.Dec{E: math.MaxInt}, api.ErrArg}}
	tryAll := func() {
		for _, c := range bad {
			if asked, err := e.Show(c.b, c.now); len(asked) > 0 || err != c.err {
				t.Errorf("Show: %v, error %d; want %d", asked, err, c.err)
			}
		}
	}
	tryAll()
	for _, at := range []api.At{{}, {Row: -1}, {Sheet: 9}} {
		if v, err := e.Value(at); !val.Same(v, api.Val{}) || err != api.ErrEngine {
			t.Errorf("Value of what has shown nothing: %v, error %d", v, err)
		}
	}
	if len(e.Values()) > 0 || e.Asked() != 0 {
		t.Errorf("nothing has been shown, but %v, asked %d", e.Values(), e.Asked())
	}
	e.Show(good, api.Dec{})
	tryAll()
	want, _ := calc.Values(good, api.Dec{})
	if !sameShown(e.Values(), want) || e.Asked() != 1 {
		t.Errorf("behind errors %v is shown, asked %d", e.Values(), e.Asked())
	}
	for _, n := range []int{-1, 200, math.MinInt, math.MaxInt} {
		for _, at := range []api.At{{Sheet: n}, {Row: n}, {Col: n}, {Sheet: 2}, {Sheet: 7}, {Col: 52}} {
			if v, err := e.Value(at); !val.Same(v, api.Val{}) || err != api.ErrArg {
				t.Errorf("Value of %+v: %v, error %d", at, v, err)
			}
		}
	}
	if v, err := e.Value(api.At{Sheet: 1, Row: 199, Col: 51}); !val.Same(v, api.Val{}) || err != api.OK {
		t.Errorf("Value of an empty cell: %v, error %d", v, err)
	}
	if asked, err := e.Show(good, api.Dec{}); len(asked) > 0 || err != api.OK {
		t.Errorf("behind errors %v is asked again, error %d", asked, err)
	}
	e.Show(sheets("T"), api.Dec{})
	if _, err := e.Value(api.At{Sheet: 1}); err != api.ErrArg || len(e.Values()) > 0 || e.Asked() != 1 {
		t.Errorf("of a workbook of one sheet: error %d, %v", err, e.Values())
	}
}

func (d *dice) formula() string {
	a, b := d.one("", "", "T!")+d.cell(), d.cell()
	return d.one(a, a+"+1", a+"*"+b, "SUM("+a+":"+b+")", "IF("+a+">2,"+b+",1)", "{1,2;3,4}", "SEQUENCE("+a+")", "NOW()+"+a, a+":"+b, "MIN("+a+"+1,5)", "LAMBDA(1)")
}

// P16.2, P16.3: whatever was shown ahead, what is shown is what calculating tells, and shown again nothing is asked.
func TestWhatFollows(t *testing.T) {
	d := dice(2)
	for range 60 {
		e, b, all := recalc.New(), sheets("S", "T"), 0
		for range 12 {
			for range 1 + d.below(3) {
				at := api.At{Sheet: d.below(2), Row: d.below(4), Col: d.below(4)}
				if d.below(9) == 0 {
					at = api.At{Sheet: 1, Row: 199, Col: 51}
				}
				b, _ = book.Set(b, at, d.one("1", "2", "x", "", "="+d.formula(), "="+d.formula(), "="+d.formula()))
			}
			now := api.Dec{M: 1 + d.below(2)}
			asked, err := e.Show(b, now)
			all += len(asked)
			want, _ := calc.Values(b, now)
			if !sameShown(e.Values(), want) || err != api.OK || e.Asked() != all {
				t.Fatalf("%v at %v: %v, error %d; want %v", b, now, e.Values(), err, want)
			}
			for row := range 6 {
				at := api.At{Sheet: d.below(2), Row: row, Col: d.below(5)}
				v, err := e.Value(at)
				if cell, _ := calc.Cell(b, at, now); !val.Same(v, cell) || err != api.OK {
					t.Fatalf("Value of %+v: %v, error %d; want %v", at, v, err, cell)
				}
			}
			if again, err := e.Show(b, now); len(again) > 0 || err != api.OK || !sameShown(e.Values(), want) {
				t.Fatalf("%v at %v: asked again %v, error %d", b, now, again, err)
			}
		}
	}
}

// P16.3: where one literal is another one, only formulas are asked that read a place that shows another value.
func TestOneLiteral(t *testing.T) {
	d, asks := dice(3), 0
	for range 300 {
		b := sheets("S")
		for row := range 5 {
			for col := range 4 {
				input := d.one("1", "2", "3")
				if row > 0 && d.below(3) > 0 {
					a, c := string(rune('A'+d.below(4)))+strconv.Itoa(1+d.below(row)), string(rune('A'+d.below(4)))+strconv.Itoa(1+d.below(row))
					input = "=" + d.one(a+"+"+c, "IF("+a+"=2,"+c+",5)", "SUM("+a+":"+c+")", "MIN("+a+",2)")
				}
				b, _ = book.Set(b, api.At{Row: row, Col: col}, input)
			}
		}
		e := recalc.New()
		e.Show(b, api.Dec{})
		before := e.Values()
		other, _ := book.Set(b, api.At{Col: d.below(4)}, d.one("1", "2", "9"))
		asked, _ := e.Show(other, api.Dec{})
		asks += len(asked)
		after := e.Values()
		for _, at := range asked {
			areas, _ := deps.Reads(other, at)
			reads := false
			for i, s := range after {
				for _, a := range areas {
					reads = reads || ref.Has(a, s.At) && !val.Same(s.V, before[i].V)
				}
			}
			if !reads {
				t.Fatalf("%+v of %v is asked, but reads nothing new", at, other)
			}
		}
	}
	if asks == 0 {
		t.Error("nothing is asked")
	}
}

// R3: what is told is new memory.
func TestNewMemory(t *testing.T) {
	e, b := recalc.New(), set(t, sheets("S"), "A1: 2 | B1: =A1*3")
	asked, _ := e.Show(b, api.Dec{})
	b.Sheets[0].Cells[0].Input = "9"
	l := e.Values()
	l[0].V.N.M, l[1].At.Col = 7, 7
	asked[0].Row = 7
	_ = append(l[:1], api.Shown{})
	if again := e.Values(); again[0].V.N.M != 2 || again[1].At.Col != 1 || again[1].V.N.M != 6 {
		t.Errorf("values: %v", again)
	}
}
