package book_test

import (
	"math"
	"reflect"
	"slices"
	"testing"

	"tabula/api"
	"tabula/book"
)

// spans are the pieces of memory that the lists within v have, with their spare room.
func spans(v reflect.Value) [][2]uintptr {
	var list [][2]uintptr
	switch v.Kind() {
	case reflect.Slice:
		from, size := v.Pointer(), v.Type().Elem().Size()
		list = append(list, [2]uintptr{from, from + uintptr(v.Cap())*size})
		for i := range v.Len() {
			list = append(list, spans(v.Index(i))...)
		}
	case reflect.Struct:
		for i := range v.NumField() {
			list = append(list, spans(v.Field(i))...)
		}
	}
	return list
}

// shared says whether two pieces of memory among those of some values are in one another.
func shared(values ...any) bool {
	var list [][2]uintptr
	for _, v := range values {
		list = append(list, spans(reflect.ValueOf(v))...)
	}
	for i, a := range list {
		for _, b := range list[:i] {
			if a[0] < b[1] && b[0] < a[1] {
				return true
			}
		}
	}
	return false
}

// P9.1: what is right.
func TestCheckRight(t *testing.T) {
	list := []api.Book{
		good(), {Sheets: []api.Sheet{{Name: "S"}}},
		changed(func(b *api.Book) { b.Sheets[2].Cells = cells(395) }),
		changed(func(b *api.Book) { b.Names = names(40) }),
		{Sheets: []api.Sheet{{Name: "S", Cells: cells(400)}}, Names: names(40), Tables: tables(10), Rules: rules(20)},
		{Sheets: []api.Sheet{{Name: "1"}, {Name: "2"}, {Name: "3"}, {Name: "'"}, {Name: "5"}, {Name: "é"}, {Name: "É"}, {Name: "!"}}, Rules: []api.Rule{{Area: api.Area{Sheet: 7, Rows: 1, Cols: 1}, Formula: "=1", Style: 50}}},
		changed(func(b *api.Book) { b.Tables[1].Name = "RATE.2" }),
		changed(func(b *api.Book) { b.Names[0].Sheet, b.Tables[0].Name = 1, "Rate" }),
		changed(func(b *api.Book) { b.Names[3].Input = "=S!A1+'Two x'!B2:C3+Gone!$A$1+#REF!+T[x]+LAMBDA(x,x)(S!A1)" }),
	}
	for _, input := range rightInputs() {
		list = append(list, changed(func(b *api.Book) { b.Sheets[1].Cells[1].Input = input }))
		if input[0] == '=' {
			list = append(list, changed(func(b *api.Book) { b.Names[1].Input, b.Rules[0].Formula = input, input }))
		}
	}
	for i, b := range list {
		if at, err := book.Check(b); at != (api.At{}) || err != api.OK {
			t.Errorf("workbook %d: %+v, error %d", i, at, err)
		}
	}
}

// P9.1: what is not right, and where.
func TestCheckWrong(t *testing.T) {
	for _, f := range faults() {
		if at, err := book.Check(f.b); at != f.at || err != f.err {
			t.Errorf("%s: %+v, error %d; want %+v, error %d", f.what, at, err, f.at, f.err)
		}
	}
}

// P9.1: of several faults the first one is told.
func TestCheckOrder(t *testing.T) {
	breaks := []func(b *api.Book){
		func(b *api.Book) { b.Rules = append(b.Rules, make([]api.Rule, 18)...) },
		func(b *api.Book) { b.Sheets[1].Name = "" },
		func(b *api.Book) { b.Sheets[2].Name = "s" },
		func(b *api.Book) { b.Sheets[0].Cells[1].Input = "" },
		func(b *api.Book) { b.Sheets[0].Cells[2].Row = 200 },
		func(b *api.Book) { b.Sheets[1].Cells[0].Col = -1 },
		func(b *api.Book) { b.Names[1].Name = "" },
		func(b *api.Book) { b.Names[3].Sheet = 9 },
		func(b *api.Book) { b.Tables[0].Rows = 0 },
		func(b *api.Book) { b.Tables[2].Rows = 0 },
		func(b *api.Book) { b.Rules[0].Style = 0 },
		func(b *api.Book) { b.Rules[2].Style = 1 },
	}
	wants := []struct {
		at  api.At
		err api.Errno
	}{{err: api.ErrLimit}, {api.At{Sheet: 1}, api.ErrSheet}, {api.At{Sheet: 2}, api.ErrSheet}, {api.At{Col: 1}, api.ErrCell}, {api.At{Row: 200, Col: 51}, api.ErrCell}, {api.At{Sheet: 1, Row: 3, Col: -1}, api.ErrCell}, {api.At{Row: 1}, api.ErrName}, {api.At{Row: 3}, api.ErrName}, {api.At{}, api.ErrTable}, {api.At{Row: 2}, api.ErrTable}, {api.At{}, api.ErrRule}, {api.At{Row: 2}, api.ErrRule}}
	b := good()
	for i := len(breaks) - 1; i >= 0; i-- {
		breaks[i](&b)
		if at, err := book.Check(b); at != wants[i].at || err != wants[i].err {
			t.Errorf("break %d: %+v, error %d; want %+v", i, at, err, wants[i])
		}
	}
}

// P9.2: workbooks are the same where all fields are.
func TestSame(t *testing.T) {
	list := []api.Book{good(), {}}
	for _, change := range []func(b *api.Book){
		func(b *api.Book) { b.Sheets = b.Sheets[:2] }, func(b *api.Book) { b.Sheets[0].Name = "s" }, func(b *api.Book) { b.Sheets[0].Cells = b.Sheets[0].Cells[:2] }, func(b *api.Book) { b.Sheets[0].Cells[1].Row = 1 }, func(b *api.Book) { b.Sheets[0].Cells[1].Col = 2 }, func(b *api.Book) { b.Sheets[0].Cells[1].Input = "=a1*3" }, func(b *api.Book) { b.Sheets[0], b.Sheets[1] = b.Sheets[1], b.Sheets[0] },
		func(b *api.Book) { b.Names = b.Names[:3] }, func(b *api.Book) { b.Names[0].Name = "rate" }, func(b *api.Book) { b.Names[0].Sheet = 1 }, func(b *api.Book) { b.Names[0].Input = "=1" }, func(b *api.Book) { b.Names[0], b.Names[1] = b.Names[1], b.Names[0] },
		func(b *api.Book) { b.Tables = b.Tables[:1] }, func(b *api.Book) { b.Tables[0].Name = "t" }, func(b *api.Book) { b.Tables[0].Sheet = 0 }, func(b *api.Book) { b.Tables[0].Row = 9 }, func(b *api.Book) { b.Tables[0].Col = 9 }, func(b *api.Book) { b.Tables[0].Rows = 9 }, func(b *api.Book) { b.Tables[0].Cols[1] = "B c" }, func(b *api.Book) { b.Tables[0].Cols = b.Tables[0].Cols[:2] },
		func(b *api.Book) { b.Rules = b.Rules[:2] }, func(b *api.Book) { b.Rules[0].Area.Rows = 9 }, func(b *api.Book) { b.Rules[0].Formula = "=1" }, func(b *api.Book) { b.Rules[0].Style = 2 }, func(b *api.Book) { b.Rules[2].Must = false },
	} {
		list = append(list, changed(change))
	}
	for i, a := range list {
		for j, b := range list {
			if book.Same(a, b) != (i == j) {
				t.Errorf("Same of workbooks %d and %d", i, j)
			}
		}
	}
	empty := api.Book{Sheets: []api.Sheet{{Cells: []api.Cell{}}}, Names: []api.Name{}, Tables: []api.Table{{Cols: []string{}}}, Rules: []api.Rule{}}
	if !book.Same(empty, api.Book{Sheets: []api.Sheet{{}}, Tables: []api.Table{{}}}) || !book.Same(good(), good()) {
		t.Error("nil and empty lists are not one")
	}
}

// P9.2: sheets are found by their names, in great or small letters, in any workbook.
func TestSheet(t *testing.T) {
	wild := api.Book{Sheets: []api.Sheet{{Name: ""}, {Name: "a"}, {Name: "A"}, {Name: "É"}, {Name: "\xff"}}}
	for _, c := range []struct {
		b    api.Book
		name string
		want int
		ok   bool
	}{
		{good(), "S", 0, true}, {good(), "s", 0, true}, {good(), "two X", 1, true}, {good(), "IT'S", 2, true}, {good(), "", 0, false}, {good(), "T", 0, false}, {good(), "'Two x'", 0, false}, {good(), "S ", 0, false},
		{wild, "", 0, true}, {wild, "A", 1, true}, {wild, "a", 1, true}, {wild, "é", 0, false}, {wild, "É", 3, true}, {wild, "\xff", 4, true}, {api.Book{}, "S", 0, false}, {api.Book{}, "", 0, false},
	} {
		if i, ok := book.Sheet(c.b, c.name); i != c.want || ok != c.ok {
			t.Errorf("Sheet of %q: %d, %v; want %d, %v", c.name, i, ok, c.want, c.ok)
		}
	}
}

// wrongPlaces are places that the good workbook does not have.
func wrongPlaces() []api.At {
	list := []api.At{{Sheet: 3}, {Sheet: 7}, {Sheet: 8}, {Row: 200}, {Col: 52}}
	for _, n := range []int{-1, math.MinInt, math.MaxInt} {
		list = append(list, api.At{Sheet: n}, api.At{Row: n}, api.At{Col: n})
	}
	return list
}

// P9.3: the errors of what asks of a place, in their order.
func TestErrors(t *testing.T) {
	for _, f := range faults() {
		s, err := book.Get(f.b, api.At{Row: -1})
		set, again := book.Set(f.b, api.At{Row: -1}, "")
		list, third := book.Cells(f.b)
		if s != "" || err != f.err || !book.Same(set, api.Book{}) || again != f.err || len(list) > 0 || third != f.err {
			t.Errorf("%s: Get %q, error %d; Set %v, error %d; Cells %v, error %d", f.what, s, err, set, again, list, third)
		}
	}
	for _, at := range wrongPlaces() {
		if s, err := book.Get(good(), at); s != "" || err != api.ErrArg {
			t.Errorf("Get of %+v: %q, error %d", at, s, err)
		}
		for _, input := range []string{"", "1", "="} {
			if b, err := book.Set(good(), at, input); !book.Same(b, api.Book{}) || err != api.ErrArg {
				t.Errorf("Set of %+v to %q: %v, error %d", at, input, b, err)
			}
		}
	}
	full := api.Book{Sheets: []api.Sheet{{Name: "S", Cells: cells(400)}, {Name: "T"}}}
	for _, input := range wrongInputs() {
		if input == "" {
			continue
		}
		for _, b := range []api.Book{good(), full} {
			if set, err := book.Set(b, api.At{Sheet: 1}, input); !book.Same(set, api.Book{}) || err != api.ErrCell {
				t.Errorf("Set to %q: %v, error %d", input, set, err)
			}
		}
	}
	for _, at := range []api.At{{Sheet: 1}, {Row: 199}} {
		if set, err := book.Set(full, at, "1"); !book.Same(set, api.Book{}) || err != api.ErrLimit {
			t.Errorf("Set of a cell more: %v, error %d", set, err)
		}
		if set, err := book.Set(full, at, ""); !book.Same(set, full) || err != api.OK {
			t.Errorf("Set of none more: error %d", err)
		}
	}
	if set, err := book.Set(full, api.At{Row: 2}, "x"); err != api.OK || set.Sheets[0].Cells[104].Input != "x" {
		t.Errorf("Set of a cell that is there: error %d", err)
	}
}

// P9.3, P9.4: what is set is got, nothing else is another, and what is handed in stays.
func TestSet(t *testing.T) {
	for at, want := range map[api.At]string{{}: "2", {Col: 1}: "=A1*3", {Row: 199, Col: 51}: "'x", {Sheet: 1, Row: 3, Col: 2}: "=S!A1+Rate", {Sheet: 1, Row: 4}: "#N/A", {Sheet: 2}: "", {Row: 1}: "", {Sheet: 1, Row: 4, Col: 1}: ""} {
		if s, err := book.Get(good(), at); s != want || err != api.OK {
			t.Errorf("Get of %+v: %q, error %d; want %q", at, s, err, want)
		}
	}
	b, inputs, n := good(), map[api.At]string{}, 0
	for i, sheet := range b.Sheets {
		for _, c := range sheet.Cells {
			inputs[api.At{Sheet: i, Row: c.Row, Col: c.Col}] = c.Input
		}
	}
	next := func(below int) int {
		n = (n*1103515245 + 12345) % (1 << 31)
		return n >> 8 % below % below
	}
	some := append(rightInputs(), "", "", "", "", "", "", "", "")
	for range 600 {
		at := api.At{Sheet: next(3), Row: next(5), Col: next(4)}
		input := some[next(len(some))]
		before := changed(func(x *api.Book) { *x = b })
		set, err := book.Set(b, at, input)
		if err != api.OK || !book.Same(b, before) || shared(b, set) {
			t.Fatalf("Set of %+v to %q: error %d, or what was handed in is another one", at, input, err)
		}
		inputs[at] = input
		if input == "" {
			delete(inputs, at)
		}
		b = set
		checkCells(t, b, inputs)
	}
	if last, _ := book.Set(good(), api.At{}, "2"); !book.Same(last, good()) || !sameRest(b) {
		t.Error("Set changes more than a cell")
	}
}

func sameRest(b api.Book) bool {
	g := good()
	return slices.Equal(b.Names, g.Names) && reflect.DeepEqual(b.Tables, g.Tables) && slices.Equal(b.Rules, g.Rules)
}

func checkCells(t *testing.T, b api.Book, inputs map[api.At]string) {
	t.Helper()
	list, err := book.Cells(b)
	if err != api.OK || len(list) != len(inputs) {
		t.Fatalf("Cells: %v, error %d; want %v", list, err, inputs)
	}
	for i, at := range list {
		if i > 0 {
			a := list[i-1]
			if a.Sheet > at.Sheet || a.Sheet == at.Sheet && (a.Row > at.Row || a.Row == at.Row && a.Col >= at.Col) {
				t.Fatalf("Cells: %v", list)
			}
		}
		if s, err := book.Get(b, at); s != inputs[at] || s == "" || err != api.OK {
			t.Fatalf("Get of %+v: %q, error %d; want %q", at, s, err, inputs[at])
		}
	}
}

// P9.4: the chapter's example.
func TestExample(t *testing.T) {
	b := api.Book{Sheets: []api.Sheet{{Name: "S"}}}
	if _, err := book.Set(b, api.At{}, "=1+"); err != api.ErrCell {
		t.Errorf("Set to =1+: error %d", err)
	}
	set, _ := book.Set(b, api.At{}, "=1+2")
	s, err := book.Get(set, api.At{})
	list, _ := book.Cells(set)
	if s != "=1+2" || err != api.OK || !slices.Equal(list, []api.At{{}}) {
		t.Errorf("Get: %q, error %d; Cells: %v", s, err, list)
	}
}
