package log_test

import (
	"math"
	"testing"

	"tabula/api"
	"tabula/book"
	"tabula/log"
	"tabula/op"
	"tabula/rebase"
)

func sheet() api.Book {
	return api.Book{Sheets: []api.Sheet{{Name: "S", Cells: []api.Cell{{Input: "1"}}}, {Name: "T"}}}
}

func set(row int, col int, s string) api.Op {
	return api.Op{Kind: api.OpSet, Row: row, Col: col, S: s}
}
func rowsIn(row int, n int) api.Op  { return api.Op{Kind: api.OpRowsIn, Row: row, N: n} }
func rowsOut(row int, n int) api.Op { return api.Op{Kind: api.OpRowsOut, Row: row, N: n} }
func noRule(n int) api.Op           { return api.Op{Kind: api.OpNoRule, N: n} }

func table() api.Op {
	return api.Op{Kind: api.OpTable, Table: api.Table{Name: "Tab", Row: 9, Col: 9, Rows: 2, Cols: []string{"a", "b"}}}
}

func on(author int, o api.Op) api.Entry { return api.Entry{Author: author, Op: o} }
func off(author int, o api.Op, again api.Op) api.Entry {
	return api.Entry{Author: author, Op: o, Off: true, Again: again}
}

// long is a log of so many entries.
func long(n int) []api.Entry {
	var l []api.Entry
	for i := range n {
		l = append(l, on(i%20, set(i%7, i%5, "x")))
	}
	return l
}

// P20.1: what is wrong with a log, and where.
func TestCheck(t *testing.T) {
	bad := sheet()
	bad.Sheets[1].Name = "s"
	a, wrong := on(1, set(0, 0, "5")), on(1, set(0, 0, "=1+"))
	for i, c := range []struct {
		b   api.Book
		l   []api.Entry
		at  int
		err api.Errno
	}{
		{sheet(), nil, 0, api.OK}, {sheet(), []api.Entry{}, 0, api.OK}, {sheet(), []api.Entry{a, off(19, set(0, 0, "6"), set(1, 0, "6")), on(0, rowsIn(0, 3))}, 0, api.OK}, {sheet(), long(200), 0, api.OK},
		{bad, nil, 0, api.ErrSheet}, {bad, long(201), 0, api.ErrSheet}, {bad, []api.Entry{wrong}, 0, api.ErrSheet}, {api.Book{}, []api.Entry{a, wrong}, 0, api.ErrLimit},
		{sheet(), long(201), 200, api.ErrLog}, {sheet(), append([]api.Entry{wrong}, long(200)...), 200, api.ErrLog}, {sheet(), long(300), 200, api.ErrLog},
		{sheet(), []api.Entry{wrong}, 0, api.ErrLog}, {sheet(), []api.Entry{a, wrong, wrong}, 1, api.ErrLog}, {sheet(), append(long(199), wrong), 199, api.ErrLog},
		{sheet(), []api.Entry{a, on(-1, a.Op)}, 1, api.ErrLog}, {sheet(), []api.Entry{a, on(20, a.Op)}, 1, api.ErrLog}, {sheet(), []api.Entry{on(math.MinInt, a.Op)}, 0, api.ErrLog}, {sheet(), []api.Entry{on(math.MaxInt, a.Op)}, 0, api.ErrLog}, {sheet(), []api.Entry{a, off(20, a.Op, a.Op)}, 1, api.ErrLog},
		{sheet(), []api.Entry{a, {}}, 1, api.ErrLog}, {sheet(), []api.Entry{a, on(1, api.Op{Kind: api.OpUndo})}, 1, api.ErrLog}, {sheet(), []api.Entry{a, {Author: 1, Op: a.Op, Again: a.Op}}, 1, api.ErrLog}, {sheet(), []api.Entry{a, {Author: 1, Op: a.Op, Again: api.Op{Table: api.Table{Cols: []string{"x"}}}}}, 1, api.ErrLog}, {sheet(), []api.Entry{{Author: 1, Op: a.Op, Again: api.Op{Table: api.Table{Cols: []string{}}}}}, 0, api.OK},
		{sheet(), []api.Entry{a, off(1, a.Op, api.Op{})}, 1, api.ErrLog}, {sheet(), []api.Entry{a, off(1, a.Op, wrong.Op)}, 1, api.ErrLog}, {sheet(), []api.Entry{a, off(1, wrong.Op, a.Op)}, 1, api.ErrLog}, {sheet(), []api.Entry{off(1, a.Op, noRule(3))}, 0, api.OK},
		{sheet(), []api.Entry{a, on(1, noRule(0)), on(1, noRule(1))}, 1, api.ErrRule}, {sheet(), []api.Entry{a, off(1, noRule(0), noRule(0)), a}, 0, api.OK}, {sheet(), []api.Entry{on(1, noRule(0)), wrong}, 1, api.ErrLog}, {sheet(), []api.Entry{off(2, table(), table()), on(1, api.Op{Kind: api.OpNoTable, Name: "tab"})}, 1, api.ErrTable}, {sheet(), []api.Entry{on(2, table()), on(1, api.Op{Kind: api.OpNoTable, Name: "tab"})}, 0, api.OK}, {sheet(), []api.Entry{on(2, table()), on(1, table())}, 1, api.ErrTable}, {sheet(), []api.Entry{a, on(1, rowsIn(0, 200))}, 1, api.ErrEdge},
	} {
		at, err := log.Check(c.b, c.l)
		if at != c.at || err != c.err {
			t.Errorf("log %d: entry %d, error %d; want entry %d, error %d", i, at, err, c.at, c.err)
		}
		if _, err := log.Replay(c.b, c.l); err != c.err {
			t.Errorf("log %d: Replay's error %d; want %d", i, err, c.err)
		}
		if l, err := log.Submit(c.b, c.l, 20, -1, api.Op{}); c.err != api.OK && (len(l) != 0 || err != c.err) {
			t.Errorf("log %d: Submit's error %d; want %d", i, err, c.err)
		}
	}
}

// P20.2: the workbook that a log makes.
func TestReplay(t *testing.T) {
	l := []api.Entry{on(1, set(1, 0, "=A1*2")), off(2, set(0, 0, "9"), set(0, 0, "9")), on(3, rowsIn(0, 1)), on(1, set(0, 0, "2"))}
	b, err := log.Replay(sheet(), l)
	want := sheet()
	want.Sheets[0].Cells = []api.Cell{{Input: "2"}, {Row: 1, Input: "1"}, {Row: 2, Input: "=A2*2"}}
	if !book.Same(b, want) || err != api.OK {
		t.Errorf("replayed: %+v, error %d", b, err)
	}
	for _, l := range [][]api.Entry{nil, {off(1, set(0, 0, "9"), set(0, 0, "9"))}} {
		start := sheet()
		if b, err = log.Replay(start, l); !book.Same(b, sheet()) || err != api.OK {
			t.Errorf("nothing replayed: %+v, error %d", b, err)
		}
		b.Sheets[0].Cells[0].Input, b.Sheets[0].Name = "9", "X"
		if !book.Same(start, sheet()) {
			t.Error("what is replayed shares memory")
		}
	}
	if b, err = log.Replay(sheet(), []api.Entry{on(1, set(0, 0, "5")), on(1, noRule(0))}); !book.Same(b, api.Book{}) || err != api.ErrRule {
		t.Errorf("a wrong log replayed: %+v, error %d", b, err)
	}
}

// P20.2: logs are the same where all fields are.
func TestSame(t *testing.T) {
	e := api.Entry{Author: -5, Op: table(), Off: true, Again: api.Op{Kind: 99}}
	list := [][]api.Entry{nil, {e}, {e, e}, {{}}}
	for _, change := range []func(e *api.Entry){func(e *api.Entry) { e.Author = 1 }, func(e *api.Entry) { e.Op.Kind = 1 }, func(e *api.Entry) { e.Op.Table.Cols = []string{"a", "c"} }, func(e *api.Entry) { e.Off = false }, func(e *api.Entry) { e.Again.Kind = 1 }, func(e *api.Entry) { e.Again.Rule.Must = true }, func(e *api.Entry) { e.Again.Table.Cols = []string{""} }} {
		x := e
		change(&x)
		list = append(list, []api.Entry{x})
	}
	for i, a := range list {
		for j, b := range list {
			if log.Same(a, b) != (i == j) {
				t.Errorf("Same of logs %d and %d", i, j)
			}
		}
	}
	if !log.Same([]api.Entry{}, nil) || !log.Same([]api.Entry{{Op: api.Op{Table: api.Table{Cols: []string{}}}}}, []api.Entry{{}}) {
		t.Error("nil and empty lists are not one")
	}
}

// P20.3: what is submitted goes over what its author had not seen.
func TestSubmit(t *testing.T) {
	l := []api.Entry{on(1, rowsIn(1, 1)), off(1, rowsIn(0, 9), rowsIn(0, 9)), on(2, set(5, 0, "x")), on(1, rowsIn(0, 2))}
	for i, c := range []struct {
		base int
		o    api.Op
		want api.Op
		err  api.Errno
	}{
		{0, set(1, 0, "=A1+A2"), set(4, 0, "=A3+A5"), 0}, {1, set(1, 0, "=A1+A2"), set(3, 0, "=A3+A4"), 0}, {3, set(1, 0, "=A1+A2"), set(3, 0, "=A3+A4"), 0}, {4, set(1, 0, "=A1+A2"), set(1, 0, "=A1+A2"), 0}, {4, set(1, 0, "= a1"), set(1, 0, "= a1"), 0}, {0, set(0, 0, ""), set(2, 0, ""), 0},
		{-1, set(0, 0, "1"), api.Op{}, api.ErrBase}, {5, set(0, 0, "1"), api.Op{}, api.ErrBase}, {math.MinInt, set(0, 0, "1"), api.Op{}, api.ErrBase}, {math.MaxInt, api.Op{}, api.Op{}, api.ErrBase}, {0, api.Op{}, api.Op{}, api.ErrOp}, {4, set(0, 0, "=1+"), api.Op{}, api.ErrOp},
		{0, rowsOut(0, 2), api.Op{}, api.ErrTangled}, {1, rowsOut(0, 2), rowsOut(2, 2), 0}, {0, noRule(0), api.Op{}, api.ErrRule}, {4, noRule(0), api.Op{}, api.ErrRule}, {4, rowsIn(0, 199), api.Op{}, api.ErrEdge}, {0, rowsIn(0, 199), api.Op{}, api.ErrTangled}, {0, set(199, 0, ""), api.Op{}, api.ErrTangled}, {4, table(), table(), 0},
	} {
		got, err := log.Submit(sheet(), l, 7, c.base, c.o)
		if err != c.err {
			t.Errorf("case %d: error %d; want %d", i, err, c.err)
		}
		want := append(l[:len(l):len(l)], on(7, c.want))
		if err == api.OK && !log.Same(got, want) || err != api.OK && len(got) != 0 {
			t.Errorf("case %d: %+v; want %+v", i, got, want)
		}
	}
	for _, author := range []int{-1, 20, math.MinInt, math.MaxInt} {
		if got, err := log.Submit(sheet(), l, author, -1, api.Op{}); len(got) != 0 || err != api.ErrLog {
			t.Errorf("author %d: error %d", author, err)
		}
	}
	for author := range 20 {
		if got, err := log.Submit(sheet(), nil, author, 0, set(0, 0, "1")); len(got) != 1 || got[0].Author != author || err != api.OK {
			t.Errorf("author %d: error %d", author, err)
		}
	}
	if got, err := log.Submit(sheet(), long(200), 1, 0, api.Op{}); len(got) != 0 || err != api.ErrLog {
		t.Errorf("behind 200 entries: error %d", err)
	}
	if got, err := log.Submit(sheet(), long(199), 1, 190, set(0, 0, "1")); len(got) != 200 || err != api.OK {
		t.Errorf("behind 199 entries: error %d", err)
	}
	if got, err := log.Submit(sheet(), []api.Entry{on(1, api.Op{Kind: api.OpSheetOut, Sheet: 1})}, 1, 0, api.Op{Kind: api.OpSet, Sheet: 1, S: "1"}); len(got) != 0 || err != api.ErrNothing {
		t.Errorf("on a sheet that is gone: error %d", err)
	}
}

// P20.3: what is told is new memory, and what was handed in stays.
func TestMemory(t *testing.T) {
	some := func() []api.Entry { return append(make([]api.Entry, 0, 9), on(1, table()), off(2, table(), table())) }
	l, o, b := some(), table(), sheet()
	o.Table.Name, o.Table.Sheet = "New", 1
	got, err := log.Submit(b, l, 1, 2, o)
	if len(got) != 3 || err != api.OK {
		t.Fatalf("error %d", err)
	}
	for i := range got {
		got[i].Op.Table.Cols[0], got[i].Author = "z", 9
		if got[i].Off {
			got[i].Again.Table.Cols[1] = "z"
		}
	}
	_ = append(got[:1], on(9, set(0, 0, "9")))
	if !log.Same(l, some()) || l[:3][2].Author != 0 || o.Table.Cols[0] != "a" || !book.Same(b, sheet()) {
		t.Error("what is told shares memory with what was handed in")
	}
}

type dice uint64

func (d *dice) below(n int) int {
	*d = *d*6364136223846793005 + 1442695040888963407
	return int(uint64(*d)>>33) % n
}

func (d *dice) op() api.Op {
	at, n := d.below(6), 1+d.below(3)
	cell := string(rune('A'+d.below(4))) + string(rune('1'+d.below(6)))
	switch d.below(10) {
	case 0:
		return rowsIn(at, n)
	case 1:
		return rowsOut(at, n)
	case 2:
		return api.Op{Kind: api.OpColsIn, Col: at, N: n}
	case 3:
		return api.Op{Kind: api.OpColsOut, Col: at, N: n}
	case 4:
		return api.Op{Kind: api.OpRename, Sheet: d.below(2), Name: []string{"S", "T", "U", "V"}[d.below(4)]}
	case 5:
		return api.Op{Kind: api.OpName, Sheet: -1, Name: "n", S: []string{"", "=S!" + cell}[d.below(2)]}
	}
	return api.Op{Kind: api.OpSet, Sheet: d.below(5) / 4, Row: at, Col: d.below(4), S: []string{"", "7", "=" + cell, "=SUM(" + cell + ":B2)", "=S!" + cell}[d.below(5)]}
}

// submitted is what P20.3 says, word by word.
func submitted(b api.Book, l []api.Entry, author int, base int, o api.Op) ([]api.Entry, api.Errno) {
	for i, e := range l {
		if i >= base && !e.Off {
			ahead, err := log.Replay(b, l[:i])
			if err == api.OK {
				o, err = rebase.Over(ahead, o, e.Op)
			}
			if err != api.OK {
				return nil, err
			}
		}
	}
	all, _ := log.Replay(b, l)
	if _, err := op.Apply(all, o); err != api.OK {
		return nil, err
	}
	return append(l[:len(l):len(l)], on(author, o)), api.OK
}

// P20.3 held against its words, and P20.4: what follows of it.
func TestMany(t *testing.T) {
	d, done := dice(1), 0
	for range 60 {
		b, l := sheet(), []api.Entry(nil)
		for range 20 {
			o, base, author := d.op(), len(l)-min(len(l), d.below(6)), d.below(20)
			next, err := log.Submit(b, l, author, base, o)
			want, wrong := submitted(b, l, author, base, o)
			if !log.Same(next, want) || err != wrong {
				t.Fatalf("submitted %+v: error %d; want %d", o, err, wrong)
			}
			if err != api.OK {
				continue
			}
			done++
			if base == len(l) && !op.Same(next[len(l)].Op, o) {
				t.Fatalf("what is sent against the newest version is not done as it was: %+v", o)
			}
			if !log.Same(next[:len(l)], l) {
				t.Fatalf("entries are others behind %+v", o)
			}
			if at, err := log.Check(b, next); at != 0 || err != api.OK {
				t.Fatalf("entry %d of the log: error %d", at, err)
			}
			l = next
			if d.below(8) == 0 {
				l[len(l)-1].Off, l[len(l)-1].Again = true, l[len(l)-1].Op
			}
		}
	}
	if done < 500 {
		t.Errorf("only %d are done", done)
	}
	// Authors that do not touch each other may submit in any turn.
	one, two := set(0, 0, "2"), set(0, 1, "=A1*3")
	var books []api.Book
	for _, turn := range [][]api.Op{{one, two}, {two, one}} {
		l, _ := log.Submit(sheet(), nil, 1, 0, turn[0])
		l, err := log.Submit(sheet(), l, 2, 0, turn[1])
		b, _ := log.Replay(sheet(), l)
		if books = append(books, b); err != api.OK {
			t.Errorf("error %d", err)
		}
	}
	if !book.Same(books[0], books[1]) {
		t.Error("another turn leaves another workbook")
	}
}
