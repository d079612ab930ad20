package op_test

import (
	"slices"
	"strconv"
	"testing"

	"tabula/api"
	"tabula/book"
	"tabula/op"
	"tabula/shift"
)

// P18.1: operations that are right.
func TestRight(t *testing.T) {
	for _, o := range rights() {
		if !op.Right(o) {
			t.Errorf("Right(%+v) is false", o)
		}
		if o.Table.Cols == nil {
			o.Table.Cols = []string{}
			if !op.Right(o) {
				t.Errorf("Right(%+v) with an empty list is false", o)
			}
		}
	}
	for _, o := range wrongs() {
		if op.Right(o) {
			t.Errorf("Right(%+v) is true", o)
		}
	}
}

// P18.1: operations are the same where all fields are.
func TestSame(t *testing.T) {
	full := api.Op{Kind: 1, Sheet: 2, Row: 3, Col: 4, N: 5, S: "6", Name: "7", Table: aTable(), Rule: aRule()}
	list := []api.Op{full, {}}
	for _, change := range []func(o *api.Op){
		func(o *api.Op) { o.Kind = 2 }, func(o *api.Op) { o.Sheet = 3 }, func(o *api.Op) { o.Row = 4 }, func(o *api.Op) { o.Col = 5 }, func(o *api.Op) { o.N = 6 }, func(o *api.Op) { o.S = "7" }, func(o *api.Op) { o.Name = "8" },
		func(o *api.Op) { o.Table.Name = "new" }, func(o *api.Op) { o.Table.Sheet = 2 }, func(o *api.Op) { o.Table.Row = 2 }, func(o *api.Op) { o.Table.Col = 3 }, func(o *api.Op) { o.Table.Rows = 4 }, func(o *api.Op) { o.Table.Cols = []string{"x"} }, func(o *api.Op) { o.Table.Cols = []string{"x", "y z"} },
		func(o *api.Op) { o.Rule.Area.Row = 1 }, func(o *api.Op) { o.Rule.Formula = "=B1" }, func(o *api.Op) { o.Rule.Style = 1 }, func(o *api.Op) { o.Rule.Must = true },
	} {
		o := full
		o.Table = aTable()
		change(&o)
		list = append(list, o)
	}
	for i, a := range list {
		for j, b := range list {
			if op.Same(a, b) != (i == j) {
				t.Errorf("Same of operations %d and %d", i, j)
			}
		}
	}
	if !op.Same(api.Op{Table: api.Table{Cols: []string{}}}, api.Op{}) {
		t.Error("nil and empty lists are not one")
	}
}

// P18.2: what comes of each kind of operation.
func TestApply(t *testing.T) {
	edited := func(s api.Shift) api.Book {
		b, err := shift.Book(good(), s)
		if err != api.OK {
			t.Fatalf("%+v: error %d", s, err)
		}
		return b
	}
	moved := aTable()
	moved.Cols = slices.Clone(moved.Cols)
	for i, c := range []struct {
		o    api.Op
		want api.Book
	}{
		{set(0, 0, 1, "=1"), changed(func(b *api.Book) {
			b.Sheets[0].Cells = slices.Insert(b.Sheets[0].Cells, 1, api.Cell{Col: 1, Input: "=1"})
		})},
		{set(0, 1, 1, ""), changed(func(b *api.Book) { b.Sheets[0].Cells = b.Sheets[0].Cells[:1] })},
		{set(1, 3, 0, "y"), changed(func(b *api.Book) { b.Sheets[1].Cells[0].Input = "y" })},
		{set(2, 9, 9, ""), good()},
		{rowsIn(0, 1, 2), edited(api.Shift{Kind: api.ShRowsIn, Sheet: "S", At: 1, N: 2})},
		{rowsOut(1, 0, 3), edited(api.Shift{Kind: api.ShRowsOut, Sheet: "Two x", N: 3})},
		{colsIn(0, 1, 3), edited(api.Shift{Kind: api.ShColsIn, Sheet: "S", At: 1, N: 3})},
		{colsOut(0, 1, 1), edited(api.Shift{Kind: api.ShColsOut, Sheet: "S", At: 1, N: 1})},
		{rename(1, "It's"), edited(api.Shift{Kind: api.ShRename, Sheet: "Two x", Name: "It's"})},
		{sheetOut(0), edited(api.Shift{Kind: api.ShGone, Sheet: "S"})},
		{sheetIn("New"), changed(func(b *api.Book) { b.Sheets = append(b.Sheets, api.Sheet{Name: "New"}) })},
		{name(-1, "new", "=S!B9"), changed(func(b *api.Book) { b.Names = append(b.Names, api.Name{Name: "new", Sheet: -1, Input: "=S!B9"}) })},
		{name(-1, "RATE", "=2"), changed(func(b *api.Book) { b.Names[0] = api.Name{Name: "RATE", Sheet: -1, Input: "=2"} })},
		{name(1, "RATE", "=2"), changed(func(b *api.Book) { b.Names[1] = api.Name{Name: "RATE", Sheet: 1, Input: "=2"} })},
		{name(0, "rate", "=A1"), changed(func(b *api.Book) { b.Names = append(b.Names, api.Name{Name: "rate", Input: "=A1"}) })},
		{name(-1, "rATE", ""), changed(func(b *api.Book) { b.Names = b.Names[1:] })},
		{name(1, "Rate", ""), changed(func(b *api.Book) { b.Names = slices.Delete(b.Names, 1, 2) })},
		{table(aTable()), changed(func(b *api.Book) { b.Tables = append(b.Tables, moved) })},
		{noTable("TAB"), changed(func(b *api.Book) { b.Tables = b.Tables[1:] })},
		{noTable("other"), changed(func(b *api.Book) { b.Tables = b.Tables[:1] })},
		{rule(aRule()), changed(func(b *api.Book) { b.Rules = append(b.Rules, aRule()) })},
		{noRule(0), changed(func(b *api.Book) { b.Rules = b.Rules[1:] })},
		{noRule(1), changed(func(b *api.Book) { b.Rules = b.Rules[:1] })},
	} {
		b := good()
		got, err := op.Apply(b, c.o)
		if !book.Same(got, c.want) || err != api.OK {
			t.Errorf("operation %d, %+v: %+v, error %d; want %+v", i, c.o, got, err, c.want)
		}
		if !book.Same(b, good()) {
			t.Errorf("operation %d: what was handed in is another one", i)
		}
	}
}

func refuse(t *testing.T, b api.Book, o api.Op, want api.Errno) {
	t.Helper()
	if got, err := op.Apply(b, o); !book.Same(got, api.Book{}) || err != want {
		t.Errorf("Apply of %+v: error %d; want %d", o, err, want)
	}
}

// P18.2: what can't be done, and what goes ahead.
func TestApplyWrong(t *testing.T) {
	bad := changed(func(b *api.Book) { b.Names[0].Name = "" })
	for _, o := range wrongs() {
		refuse(t, good(), o, api.ErrOp)
		refuse(t, bad, o, api.ErrName)
	}
	for _, o := range rights() {
		refuse(t, bad, o, api.ErrName)
		refuse(t, api.Book{}, o, api.ErrLimit)
	}
	for _, n := range []int{3, 7} {
		for _, o := range []api.Op{set(n, 0, 0, ""), set(n, 0, 0, "1"), rowsIn(n, 0, 1), rowsOut(n, 0, 1), colsIn(n, 0, 1), colsOut(n, 0, 1), sheetOut(n), rename(n, "V")} {
			refuse(t, good(), o, api.ErrArg)
		}
		refuse(t, good(), name(n, "x", "=1"), api.ErrName)
		refuse(t, good(), name(n, "x", ""), api.ErrName)
		at, r := aTable(), aRule()
		at.Sheet, r.Area.Sheet = n, n
		refuse(t, good(), table(at), api.ErrTable)
		refuse(t, good(), rule(r), api.ErrRule)
	}
	refuse(t, good(), sheetIn("s"), api.ErrSheet)
	refuse(t, good(), sheetIn("TWO X"), api.ErrSheet)
	refuse(t, good(), rename(0, "t"), api.ErrShift)
	refuse(t, good(), name(-1, "none", ""), api.ErrName)
	refuse(t, good(), name(0, "Rate", ""), api.ErrName)
	refuse(t, good(), name(-1, "x", "=A1"), api.ErrName)
	refuse(t, good(), name(-1, "tab", "=1"), api.ErrTable)
	refuse(t, good(), noTable("Rate"), api.ErrTable)
	refuse(t, good(), noRule(2), api.ErrRule)
	refuse(t, good(), noRule(19), api.ErrRule)
	same, meets, named := aTable(), aTable(), aTable()
	same.Name = "TAB"
	meets.Row, meets.Col = 9, 0
	named.Name = "K"
	for _, x := range []api.Table{same, meets, named} {
		refuse(t, good(), table(x), api.ErrTable)
	}
	refuse(t, good(), colsIn(0, 5, 1), api.ErrShift)
	refuse(t, good(), rowsIn(0, 0, 194), api.ErrEdge)
	one := api.Book{Sheets: []api.Sheet{{Name: "S"}}}
	refuse(t, one, sheetOut(0), api.ErrShift)
	refuse(t, one, noRule(0), api.ErrRule)
}

// full is a workbook that has as much as there may be of each thing.
func full() api.Book {
	var b api.Book
	for i := range 8 {
		b.Sheets = append(b.Sheets, api.Sheet{Name: "S" + strconv.Itoa(i)})
	}
	for i := range 400 {
		b.Sheets[0].Cells = append(b.Sheets[0].Cells, api.Cell{Row: i / 40, Col: i % 40, Input: "1"})
	}
	for i := range 40 {
		b.Names = append(b.Names, api.Name{Name: "n." + strconv.Itoa(i), Sheet: -1, Input: "=1"})
	}
	for i := range 10 {
		b.Tables = append(b.Tables, api.Table{Name: "t." + strconv.Itoa(i), Row: 2 * i, Rows: 1, Cols: []string{"a"}})
	}
	for range 20 {
		b.Rules = append(b.Rules, aRule())
	}
	return b
}

// P18.2: of each thing no more than there may be.
func TestLimits(t *testing.T) {
	for _, o := range []api.Op{set(1, 0, 0, "x"), sheetIn("New"), name(-1, "new", "=1"), name(0, "n.0", "=1"), table(aTable()), rule(aRule())} {
		refuse(t, full(), o, api.ErrLimit)
	}
	for _, o := range []api.Op{set(0, 9, 39, "x"), set(0, 9, 39, ""), name(-1, "N.39", "=2"), name(-1, "n.39", ""), noTable("t.9"), noRule(19), rename(7, "New"), rowsIn(1, 0, 9)} {
		if got, err := op.Apply(full(), o); err != api.OK || book.Same(got, full()) && o.Kind != api.OpRowsIn {
			t.Errorf("Apply of %+v: error %d", o, err)
		}
	}
}

// P18.3: operations one behind the other, up to the first that can't be done.
func TestRun(t *testing.T) {
	empty := api.Book{Sheets: []api.Sheet{{Name: "S"}}}
	l := []api.Op{set(0, 0, 0, "=B2"), rowsIn(0, 1, 2), name(-1, "Rate", "=S!A1"), noRule(0), set(0, 5, 5, "x")}
	want := api.Book{Sheets: []api.Sheet{{Name: "S", Cells: []api.Cell{{Input: "=B4"}}}}, Names: []api.Name{{Name: "Rate", Sheet: -1, Input: "=S!A1"}}}
	for n := range 4 {
		got, done, err := op.Run(empty, l[:n])
		if done != n || err != api.OK || n == 3 && !book.Same(got, want) || n == 0 && !book.Same(got, empty) {
			t.Errorf("Run of %d: %+v, %d, error %d", n, got, done, err)
		}
	}
	for _, l := range [][]api.Op{l, l[:4]} {
		if got, done, err := op.Run(empty, l); !book.Same(got, api.Book{}) || done != 3 || err != api.ErrRule {
			t.Errorf("Run: %+v, %d, error %d", got, done, err)
		}
	}
	if got, done, err := op.Run(empty, []api.Op{{}}); !book.Same(got, api.Book{}) || done != 0 || err != api.ErrOp {
		t.Errorf("Run of a wrong operation: %+v, %d, error %d", got, done, err)
	}
	for _, l := range [][]api.Op{nil, l, {{}}} {
		if got, done, err := op.Run(api.Book{}, l); !book.Same(got, api.Book{}) || done != 0 || err != api.ErrLimit {
			t.Errorf("Run on a wrong workbook: %+v, %d, error %d", got, done, err)
		}
	}
	if got, _, _ := op.Run(empty, nil); len(got.Sheets) != 1 {
		t.Error("Run of none tells nothing")
	} else if got.Sheets[0].Name = "x"; empty.Sheets[0].Name != "S" {
		t.Error("what is answered shares memory with what was handed in")
	}
}

// R3: what comes of an operation shares no memory with the operation, nor with the workbook.
func TestNewMemory(t *testing.T) {
	for _, o := range []api.Op{table(aTable()), sheetIn("New"), rule(aRule()), name(-1, "new", "=1"), set(0, 0, 0, "1"), noRule(0), rename(0, "V"), name(-1, "k", ""), noTable("Tab")} {
		b := good()
		o.Table.Cols = append(make([]string, 0, 9), o.Table.Cols...)
		got, _ := op.Apply(b, o)
		for i := range got.Tables {
			got.Tables[i].Cols[0] = "changed"
			_ = append(got.Tables[i].Cols, "more")
		}
		for i := range got.Sheets {
			got.Sheets[i].Name = "changed"
			for j := range got.Sheets[i].Cells {
				got.Sheets[i].Cells[j].Input = "changed"
			}
		}
		for i := range got.Names {
			got.Names[i].Name = "changed"
		}
		for i := range got.Rules {
			got.Rules[i].Style = 7
		}
		if !book.Same(b, good()) || len(o.Table.Cols) > 0 && (o.Table.Cols[0] != "x" || o.Table.Cols[:9][2] != "") {
			t.Errorf("%+v shares memory with what was handed in", o)
		}
	}
}

// P18.4: what is applied leaves a right workbook; what is put behind all and taken away leaves what there was; two cells may be set in any turn.
func TestWhatFollows(t *testing.T) {
	n := uint64(1)
	below := func(m int) int {
		n = n*6364136223846793005 + 1442695040888963407
		return int(n>>33) % m
	}
	b, done := good(), 0
	all := rights()
	for range 3000 {
		o := all[below(len(all))]
		o.Sheet = min(o.Sheet, below(4))
		if below(40) == 0 {
			b = good()
		}
		got, err := op.Apply(b, o)
		if err != api.OK {
			continue
		}
		done++
		if _, wrong := book.Check(got); wrong != api.OK {
			t.Fatalf("%+v leaves a wrong workbook: error %d", o, wrong)
		}
		b = got
	}
	if done < 300 {
		t.Errorf("only %d operations are done", done)
	}
	for _, l := range [][]api.Op{{sheetIn("New"), sheetOut(3)}, {name(-1, "new", "=1"), name(-1, "NEW", "")}, {table(aTable()), noTable("NEW")}, {rule(aRule()), noRule(2)}} {
		if got, done, err := op.Run(good(), l); !book.Same(got, good()) || done != 2 || err != api.OK {
			t.Errorf("%+v: %+v, error %d", l, got, err)
		}
	}
	a, c := set(0, 0, 0, "=1"), set(1, 7, 7, "x")
	one, _, _ := op.Run(good(), []api.Op{a, c})
	other, _, _ := op.Run(good(), []api.Op{c, a})
	if !book.Same(one, other) || len(one.Sheets[1].Cells) != 2 {
		t.Errorf("%+v; in the other turn %+v", one, other)
	}
}
