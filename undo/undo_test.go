package undo_test

import (
	"math"
	"testing"

	"tabula/api"
	"tabula/book"
	logs "tabula/log"
	"tabula/op"
	"tabula/undo"
)

type told struct {
	l      []api.Entry
	author int
	want   []api.Entry
	err    api.Errno
}

func check(t *testing.T, call string, ask func(api.Book, []api.Entry, int) ([]api.Entry, api.Errno), list []told) {
	t.Helper()
	for i, c := range list {
		if got, err := ask(sheets(), c.l, c.author); !logs.Same(got, c.want) || err != c.err {
			t.Errorf("%s %d: %+v, error %d; want %+v, error %d", call, i, got, err, c.want, c.err)
		}
	}
}

// P21.1: what is taken back.
func TestUndo(t *testing.T) {
	check(t, "Undo", undo.Undo, []told{
		{entries(on(1, set(0, 0, "5")), on(2, set(1, 0, "6"))), 1, entries(off(1, set(0, 0, "5")), on(2, set(1, 0, "6"))), 0},
		{entries(on(1, rowsIn(0, 1)), on(2, set(1, 0, "6"))), 1, entries(off(1, rowsIn(0, 1)), on(2, set(0, 0, "6"))), 0},
		{entries(on(1, rowsIn(0, 1)), on(2, set(0, 0, "6"))), 1, nil, api.ErrNothing},
		{entries(on(1, set(0, 0, "5")), on(2, set(1, 0, "6"))), 2, entries(on(1, set(0, 0, "5")), off(2, set(1, 0, "6"))), 0},
		{entries(on(1, set(0, 0, "5")), on(1, set(0, 0, "6")), on(2, set(0, 0, "7"))), 1, entries(on(1, set(0, 0, "5")), off(1, set(0, 0, "6")), on(2, set(0, 0, "7"))), 0},
		{entries(on(1, set(0, 0, "5")), off(1, set(0, 0, "6"))), 1, entries(off(1, set(0, 0, "5")), off(1, set(0, 0, "6"))), 0},
		{entries(off(1, set(0, 0, "5")), on(1, set(0, 0, "6"))), 1, entries(marked(1, set(0, 0, "5")), off(1, set(0, 0, "6"))), 0},
		{entries(off(1, noRule(1)), off(2, noRule(1)), on(1, set(0, 0, "6"))), 1, entries(api.Entry{Author: 1, Op: noRule(1), Off: true, Again: api.Op{Kind: api.OpSheetOut}}, off(2, noRule(1)), off(1, set(0, 0, "6"))), 0},
		{entries(on(1, rowsIn(0, 1)), off(2, set(3, 0, "6")), on(3, set(5, 0, "=A4+A9"))), 1, entries(off(1, rowsIn(0, 1)), off(2, set(2, 0, "6")), on(3, set(4, 0, "=A3+A8"))), 0},
		{entries(on(1, rowsIn(0, 1)), off(2, set(3, 0, "6")), on(2, set(5, 0, "7"))), 1, entries(off(1, rowsIn(0, 1)), off(2, set(3, 0, "6")), on(2, set(4, 0, "7"))), 0},
		{entries(on(1, rowsIn(0, 1)), off(2, set(3, 0, "6")), marked(2, set(4, 0, "7"))), 1, entries(off(1, rowsIn(0, 1)), off(2, set(2, 0, "6")), marked(2, set(4, 0, "7"))), 0},
		{entries(on(0, rowsIn(0, 1)), on(19, set(1, 0, "6"))), 0, entries(off(0, rowsIn(0, 1)), on(19, set(0, 0, "6"))), 0},
		{entries(on(0, set(0, 0, "5")), on(19, set(1, 0, "6"))), 19, entries(on(0, set(0, 0, "5")), off(19, set(1, 0, "6"))), 0},
		{entries(on(1, rowsIn(0, 1)), marked(2, set(3, 0, "6"))), 1, entries(off(1, rowsIn(0, 1)), marked(2, set(3, 0, "6"))), 0},
		{entries(on(1, rowsIn(0, 1)), off(2, set(3, 0, "6")), off(2, set(4, 0, "6"))), 1, nil, api.ErrTangled},
		{entries(on(1, set(5, 5, "1")), off(2, set(3, 0, "6")), off(2, set(4, 0, "6"))), 1, nil, api.ErrTangled},
		{entries(on(1, rowsIn(0, 1)), off(2, set(3, 0, "6")), on(3, set(9, 9, "1")), off(4, set(4, 0, "6"))), 1, entries(off(1, rowsIn(0, 1)), off(2, set(2, 0, "6")), on(3, set(8, 9, "1")), off(4, set(3, 0, "6"))), 0},
		{entries(on(1, rowsIn(3, 1)), on(2, rowsOut(3, 1)), off(3, set(8, 0, "1")), off(3, set(9, 0, "1"))), 1, nil, api.ErrNothing},
		{entries(on(1, noRule(1)), on(2, noRule(0)), on(3, set(0, 0, "1"))), 1, entries(off(1, noRule(1)), on(2, noRule(0)), on(3, set(0, 0, "1"))), 0},
		{entries(on(1, set(0, 0, "1")), on(2, rowsOut(0, 1)), off(3, set(8, 0, "1")), off(3, set(9, 0, "1"))), 1, entries(off(1, set(0, 0, "1")), on(2, rowsOut(0, 1)), off(3, set(8, 0, "1")), off(3, set(9, 0, "1"))), 0},
		{entries(on(1, sheetIn("U")), on(2, api.Op{Kind: api.OpSet, Sheet: 2, S: "1"})), 1, nil, api.ErrNothing},
		{entries(on(1, sheetIn("U")), on(2, set(0, 0, "=U!A1"))), 1, nil, api.ErrTangled},
		{entries(on(1, set(0, 0, "5")), on(1, rowsIn(0, 1))), 1, entries(on(1, set(0, 0, "5")), off(1, rowsIn(0, 1))), 0},
		{entries(on(1, rowsIn(1, 1)), on(2, set(5, 5, "= a1 + A9"))), 1, entries(off(1, rowsIn(1, 1)), on(2, set(4, 5, "=A1+A8"))), 0},
		{nil, 1, nil, api.ErrUndo}, {entries(on(1, set(0, 0, "5"))), 2, nil, api.ErrUndo}, {entries(off(1, set(0, 0, "5"))), 1, nil, api.ErrUndo},
	})
}

// P21.1: what would not be the same, made again, is not taken back.
func TestUndoTangled(t *testing.T) {
	check(t, "Undo", undo.Undo, []told{
		{entries(on(1, rowsIn(1, 1)), on(2, set(5, 5, "=SUM(A1:A2)"))), 1, nil, api.ErrTangled},
		{entries(on(1, rowsIn(1, 2)), on(2, rowsIn(2, 1))), 1, nil, api.ErrTangled},
		{entries(on(1, rowsOut(1, 1)), on(2, rowsIn(1, 1))), 1, entries(off(1, rowsOut(1, 1)), on(2, rowsIn(2, 1))), 0},
		{entries(on(1, api.Op{Kind: api.OpSheetOut, Sheet: 1}), on(2, set(0, 0, "=T!A1"))), 1, nil, api.ErrTangled},
		{entries(on(1, rowsOut(3, 1)), on(2, set(5, 5, "=A4"))), 1, entries(off(1, rowsOut(3, 1)), on(2, set(6, 5, "=A5"))), 0},
	})
}

// P21.2: what is made again.
func TestRedo(t *testing.T) {
	check(t, "Redo", undo.Redo, []told{
		{entries(off(1, set(0, 0, "5")), on(2, set(1, 0, "6"))), 1, entries(on(1, set(0, 0, "5")), on(2, set(1, 0, "6"))), 0},
		{entries(off(1, rowsIn(0, 1)), on(2, set(0, 0, "6"))), 1, entries(on(1, rowsIn(0, 1)), on(2, set(1, 0, "6"))), 0},
		{entries(off(1, set(0, 0, "5")), off(1, set(0, 0, "6"))), 1, entries(on(1, set(0, 0, "5")), off(1, set(0, 0, "6"))), 0},
		{entries(on(1, set(0, 0, "5")), off(1, set(0, 0, "6"))), 1, entries(on(1, set(0, 0, "5")), on(1, set(0, 0, "6"))), 0},
		{entries(off(0, set(0, 0, "5"))), 0, entries(on(0, set(0, 0, "5"))), 0}, {entries(off(19, set(0, 0, "5"))), 19, entries(on(19, set(0, 0, "5"))), 0},
		{entries(marked(1, set(0, 0, "5")), off(1, set(0, 0, "6"))), 1, entries(marked(1, set(0, 0, "5")), on(1, set(0, 0, "6"))), 0},
		{entries(off(1, set(0, 0, "5")), off(2, set(0, 0, "6"))), 2, entries(off(1, set(0, 0, "5")), on(2, set(0, 0, "6"))), 0},
		{entries(off(1, rowsIn(0, 1)), off(2, set(3, 0, "6")), on(3, set(5, 0, "=A4"))), 1, entries(on(1, rowsIn(0, 1)), off(2, set(4, 0, "6")), on(3, set(6, 0, "=A5"))), 0},
		{entries(off(1, rowsIn(0, 1)), marked(2, set(3, 0, "6")), off(3, set(5, 0, "=A4")), on(3, set(0, 0, "1"))), 1, entries(on(1, rowsIn(0, 1)), marked(2, set(3, 0, "6")), off(3, set(5, 0, "=A4")), on(3, set(1, 0, "1"))), 0},
		{entries(off(1, rowsIn(0, 1)), off(2, set(3, 0, "6")), off(2, set(5, 0, "=A4"))), 1, nil, api.ErrTangled},
		{entries(off(1, rowsOut(0, 1)), on(2, set(0, 0, "1"))), 1, nil, api.ErrNothing},
		{entries(off(1, sheetIn("U")), on(2, sheetIn("u"))), 1, nil, api.ErrTangled},
		{entries(off(1, rowsOut(1, 1)), on(2, set(5, 5, "=A2"))), 1, nil, api.ErrTangled},
		{entries(off(1, noRule(1)), on(2, noRule(1)), off(3, set(8, 0, "1")), off(3, set(9, 0, "1"))), 1, nil, api.ErrNothing},
		{nil, 1, nil, api.ErrUndo}, {entries(off(1, set(0, 0, "5"))), 2, nil, api.ErrUndo}, {entries(on(1, set(0, 0, "5"))), 1, nil, api.ErrUndo}, {entries(marked(1, set(0, 0, "5"))), 1, nil, api.ErrUndo}, {entries(off(1, set(0, 0, "5")), on(1, set(0, 0, "6"))), 1, nil, api.ErrUndo},
	})
}

// P21.3: a log without an author.
func TestWithout(t *testing.T) {
	check(t, "Without", undo.Without, []told{
		{entries(on(1, rowsIn(0, 1)), on(2, set(3, 0, "6")), on(1, rowsIn(0, 2)), on(2, set(4, 0, "=A9"))), 1, entries(on(2, set(2, 0, "6")), on(2, set(1, 0, "=A6"))), 0},
		{entries(on(1, rowsIn(0, 1)), on(2, set(3, 0, "6"))), 3, entries(on(1, rowsIn(0, 1)), on(2, set(3, 0, "6"))), 0},
		{entries(off(1, rowsIn(0, 1)), marked(1, rowsIn(0, 9)), on(2, set(3, 0, "6"))), 1, entries(on(2, set(3, 0, "6"))), 0},
		{entries(on(1, rowsIn(0, 1)), on(2, set(0, 0, "6")), on(1, rowsIn(0, 1))), 1, nil, api.ErrNothing},
		{entries(on(1, rowsIn(0, 1)), on(1, rowsIn(0, 1))), 1, nil, 0}, {nil, 1, nil, 0},
	})
	l := entries(on(1, set(0, 0, "5")), off(1, set(0, 0, "6")))
	b, err := undo.Book(sheets(), l)
	if want, _ := op.Apply(sheets(), set(0, 0, "5")); !book.Same(b, want) || err != api.OK {
		t.Errorf("Book: %+v, error %d", b, err)
	}
	if b, err := undo.Book(sheets(), entries(on(1, noRule(5)))); !book.Same(b, api.Book{}) || err != api.ErrRule {
		t.Errorf("Book of a wrong log: error %d", err)
	}
}

// P21.1 to P21.3: what is wrong, in its order.
func TestWrong(t *testing.T) {
	bad := sheets()
	bad.Names[0].Name = ""
	for call, ask := range map[string]func(api.Book, []api.Entry, int) ([]api.Entry, api.Errno){"Undo": undo.Undo, "Redo": undo.Redo, "Without": undo.Without} {
		for _, author := range []int{-1, 20, math.MinInt, math.MaxInt} {
			check(t, call, ask, []told{{entries(on(1, set(0, 0, "5"))), author, nil, api.ErrArg}, {nil, author, nil, api.ErrArg}, {entries(on(1, noRule(5))), author, nil, api.ErrRule}, {entries(on(20, set(0, 0, "5"))), author, nil, api.ErrLog}})
			if l, err := ask(bad, entries(on(20, noRule(5))), author); len(l) != 0 || err != api.ErrName {
				t.Errorf("%s on a wrong workbook: error %d", call, err)
			}
		}
		check(t, call, ask, []told{{entries(on(1, set(0, 0, "5")), on(1, noRule(5))), 1, nil, api.ErrRule}, {entries(on(1, set(0, 0, "5")), api.Entry{}), 1, nil, api.ErrLog}, {entries(off(1, set(0, 0, "5")), api.Entry{Author: 1, Op: set(0, 0, "5"), Off: true}), 1, nil, api.ErrLog}})
	}
}

// P21.1 to P21.3: what is told is new memory, and what was handed in stays.
func TestMemory(t *testing.T) {
	tab := func() api.Op { return table("Tab", 5, "a", "b") }
	for call, c := range map[string]struct {
		ask   func(api.Book, []api.Entry, int) ([]api.Entry, api.Errno)
		first func() api.Entry
	}{
		"Undo":    {undo.Undo, func() api.Entry { return on(1, tab()) }},
		"Redo":    {undo.Redo, func() api.Entry { return off(1, tab()) }},
		"Without": {undo.Without, func() api.Entry { return off(1, tab()) }},
	} {
		some := func() []api.Entry {
			return append(make([]api.Entry, 0, 9), on(2, table("Old", 0, "x", "y")), c.first(), off(3, table("New", 9, "c", "d")))
		}
		b, l := sheets(), some()
		got, err := c.ask(b, l, 1)
		if err != api.OK {
			t.Errorf("%s: error %d", call, err)
		}
		for i := range got {
			got[i].Op.Table.Cols[0] = "changed"
			if got[i].Off && got[i].Again.Table.Cols[0] == "changed" {
				t.Errorf("%s: two lists of entry %d share memory", call, i)
			}
			if got[i].Off {
				got[i].Again.Table.Cols[1] = "changed"
			}
		}
		_ = append(got[:1], on(9, set(0, 0, "9")))
		_ = append(got, on(9, set(0, 0, "9")))
		if !logs.Same(l, some()) || l[:4][3].Author != 0 || !book.Same(b, sheets()) {
			t.Errorf("%s shares memory with what was handed in", call)
		}
	}
}

// P21.1, P21.2 held against the chapter's words, and P21.4: what follows of them.
func TestMany(t *testing.T) {
	d, tells := dice(1), map[api.Errno]int{}
	for range 200 {
		b, l := sheets(), []api.Entry(nil)
		for range 25 {
			author := 1 + d.below(3)
			var next, want []api.Entry
			var err, wrong api.Errno
			switch d.below(7) {
			case 0, 1:
				next, err = undo.Undo(b, l, author)
				want, wrong = undone(b, l, author)
				tells[err]++
				follows(t, b, l, next, author, err)
			case 2:
				next, err = undo.Redo(b, l, author)
				want, wrong = redone(b, l, author)
				tells[err]++
				if back, wrong := undo.Undo(b, next, author); err == api.OK && (wrong != api.OK || !alike(back, l)) {
					t.Fatalf("author %d made again, and can't take back: error %d", author, wrong)
				}
			default:
				next, err = logs.Submit(b, l, author, len(l)-min(len(l), d.below(3)), d.op())
				want, wrong = next, err
			}
			if !logs.Same(next, want) || err != wrong {
				t.Fatalf("of author %d of %+v:\n%+v, error %d; want\n%+v, error %d", author, l, next, err, want, wrong)
			}
			if err == api.OK {
				l = next
			}
		}
	}
	if tells[api.OK] < 800 || tells[api.ErrTangled] < 40 || tells[api.ErrNothing] < 20 {
		t.Errorf("told: %v", tells)
	}
}

// follows checks P21.4 of what Undo told.
func follows(t *testing.T, b api.Book, l []api.Entry, next []api.Entry, author int, err api.Errno) {
	t.Helper()
	if err != api.OK {
		return
	}
	again, err := undo.Redo(b, next, author)
	if err != api.OK || !alike(again, l) {
		t.Fatalf("author %d took back, and can't make again: error %d", author, err)
	}
	k := 0
	for i, e := range next {
		if e.Off != l[i].Off {
			if k = i; e.Author != author || l[i].Off {
				t.Fatalf("author %d took entry %d back", author, i)
			}
		}
	}
	for i := range k {
		if !op.Same(next[i].Op, l[i].Op) {
			t.Fatalf("entry %d, ahead of %d, is another one", i, k)
		}
	}
	if k == len(l)-1 {
		ahead, _ := logs.Replay(b, l[:k])
		if left, err := undo.Book(b, next); err != api.OK || !book.Same(left, ahead) {
			t.Fatalf("the last entry, taken back, leaves another workbook than there was ahead of it")
		}
	}
}

// P21.4: one author alone takes all back, and makes all again.
func TestAlone(t *testing.T) {
	d := dice(7)
	for range 15 {
		b, l := sheets(), []api.Entry(nil)
		for range 30 {
			if next, err := logs.Submit(b, l, 4, len(l), d.op()); err == api.OK {
				l = next
			}
		}
		all, _ := undo.Book(b, l)
		back := l
		for range l {
			next, err := undo.Undo(b, back, 4)
			if err != api.OK {
				t.Fatalf("error %d", err)
			}
			back = next
		}
		if left, err := undo.Book(b, back); err != api.OK || !book.Same(left, b) {
			t.Fatalf("all is taken back, and something is left")
		}
		if rest, err := undo.Without(b, l, 4); len(rest) != 0 || err != api.OK {
			t.Fatalf("without the only author: error %d", err)
		}
		for range l {
			next, err := undo.Redo(b, back, 4)
			if err != api.OK {
				t.Fatalf("error %d", err)
			}
			back = next
		}
		if again, err := undo.Book(b, back); err != api.OK || !book.Same(again, all) || !logs.Same(back, l) {
			t.Fatalf("all is made again, and is not what there was")
		}
	}
}
