package desk_test

import (
	"math"
	"strings"
	"testing"

	"tabula/api"
	"tabula/book"
	"tabula/desk"
	"tabula/pack"
	"tabula/val"
)

// P28.2: the chapter's example.
func TestExample(t *testing.T) {
	d := started(t, 4096, one())
	for i, step := range []struct {
		do   func() api.Errno
		want string
	}{
		{func() api.Errno { return d.Do(1, 0, set(t, "A1", "2")) }, "2"},
		{func() api.Errno { return d.Do(2, 1, set(t, "A1", "3")) }, "3"},
		{func() api.Errno { return d.Undo(2) }, "2"},
		{func() api.Errno { return d.Undo(1) }, ""},
		{func() api.Errno { return d.Redo(2) }, "3"},
		{func() api.Errno { return d.Redo(1) }, "3"},
	} {
		if err := step.do(); err != api.OK || shows(t, d, "A1") != step.want || d.Version() != i+1 {
			t.Errorf("step %d: error %d, %s, version %d; want %s", i, err, shows(t, d, "A1"), d.Version(), step.want)
		}
	}
}

// P28.1: sizes, and a desk that is not started.
func TestNew(t *testing.T) {
	for _, size := range []int{0, -64, 63, 65, 65600, math.MinInt, math.MaxInt} {
		if d, err := desk.New(size); d != nil || err != api.ErrArg {
			t.Errorf("New(%d): error %d", size, err)
		}
	}
	d, err := desk.New(64)
	ok(t, err)
	idle := func() {
		t.Helper()
		b, wrong := d.Book()
		v, err := d.Value(api.At{Row: -1})
		if !book.Same(b, api.Book{}) || wrong != api.ErrDesk || !val.Same(v, api.Val{}) || err != api.ErrDesk || d.Version() != 0 || d.Asked() != 0 {
			t.Errorf("Book: error %d; Value: error %d; version %d, asked %d", wrong, err, d.Version(), d.Asked())
		}
	}
	idle()
	bad := one()
	bad.Sheets[0].Name = ""
	for i, c := range []struct{ err, want api.Errno }{
		{d.Do(99, 99, api.Op{}), api.ErrDesk}, {d.Undo(99), api.ErrDesk}, {d.Redo(99), api.ErrDesk}, {d.Start(bad), api.ErrSheet}, {d.Start(api.Book{}), api.ErrLimit}, {d.Start(one()), api.ErrFull},
		{d.Sync(), api.OK}, {d.Crash([]int{0}), api.ErrKeep}, {d.Crash(nil), api.OK}, {d.Tick(api.Dec{M: 10}), api.ErrArg}, {d.Tick(api.Dec{M: 7}), api.OK},
	} {
		if c.err != c.want {
			t.Errorf("call %d of one that is not started: error %d; want %d", i, c.err, c.want)
		}
		idle()
	}
}

// P28.1: no desk.
func TestNil(t *testing.T) {
	var d *desk.Desk
	_, wrong := d.Book()
	v, err := d.Value(api.At{})
	for i, e := range []api.Errno{wrong, err, d.Start(api.Book{}), d.Do(1, 0, api.Op{}), d.Undo(1), d.Redo(1), d.Sync(), d.Crash([]int{7}), d.Tick(api.Dec{M: 10})} {
		if e != api.ErrNil {
			t.Errorf("call %d of none: error %d", i, e)
		}
	}
	if d.Version() != 0 || d.Asked() != 0 || !val.Same(v, api.Val{}) {
		t.Errorf("version %d, asked %d, %+v", d.Version(), d.Asked(), v)
	}
}

// P28.2: what can't be done, in its order; and nothing has changed then.
func TestWrong(t *testing.T) {
	d := started(t, 4096, one())
	ok(t, d.Do(1, 0, set(t, "A1", "2")))
	ok(t, d.Do(2, 0, set(t, "B1", "=A1+1")))
	ok(t, d.Do(2, 2, set(t, "C1", "=NOW()")))
	ok(t, d.Undo(2))
	ok(t, d.Do(3, 4, rowsOut(4, 1)))
	before, asked := file(t, d), d.Asked()
	for i, c := range []struct{ err, want api.Errno }{
		{d.Do(99, 3, api.Op{}), api.ErrBase}, {d.Do(1, 0, set(t, "A1", "2")), api.ErrBase}, {d.Do(1, 6, set(t, "A1", "2")), api.ErrBase}, {d.Do(1, -1, set(t, "A1", "2")), api.ErrBase}, {d.Do(1, math.MinInt, set(t, "A1", "2")), api.ErrBase}, {d.Do(1, math.MaxInt, set(t, "A1", "2")), api.ErrBase},
		{d.Do(20, 5, api.Op{}), api.ErrLog}, {d.Do(-1, 5, api.Op{}), api.ErrLog}, {d.Do(1, 5, api.Op{}), api.ErrOp}, {d.Do(1, 5, api.Op{Kind: api.OpUndo}), api.ErrOp}, {d.Do(1, 5, api.Op{Kind: api.OpRedo}), api.ErrOp}, {d.Do(1, 5, api.Op{Kind: api.OpSheetOut}), api.ErrShift}, {d.Do(1, 5, api.Op{Kind: api.OpNoRule}), api.ErrRule}, {d.Do(1, 4, set(t, "A5", "1")), api.ErrNothing}, {d.Do(1, 4, rowsOut(4, 1)), api.ErrNothing},
		{d.Undo(-1), api.ErrArg}, {d.Undo(20), api.ErrArg}, {d.Undo(4), api.ErrUndo}, {d.Redo(-1), api.ErrArg}, {d.Redo(20), api.ErrArg}, {d.Redo(1), api.ErrUndo}, {d.Redo(4), api.ErrUndo},
		{d.Start(one()), api.ErrStore}, {d.Start(api.Book{}), api.ErrStore}, {d.Tick(api.Dec{M: 10}), api.ErrArg}, {d.Tick(api.Dec{M: api.MaxDigit + 1}), api.ErrArg}, {d.Crash([]int{999}), api.ErrKeep}, {d.Crash([]int{0, -1}), api.ErrKeep},
	} {
		if c.err != c.want {
			t.Errorf("call %d: error %d; want %d", i, c.err, c.want)
		}
	}
	if file(t, d) != before || d.Version() != 5 || d.Asked() != asked || shows(t, d, "B1") != "3" {
		t.Errorf("what was refused has changed something: version %d, asked %d", d.Version(), d.Asked())
	}
	ok(t, d.Do(1, 4, set(t, "A6", "9")))
	ok(t, d.Redo(2))
	if shows(t, d, "A5") != "9" || shows(t, d, "C1") != "0" {
		t.Errorf("A5 shows %s, C1 %s", shows(t, d, "A5"), shows(t, d, "C1"))
	}
}

// P28.2: a disk that is full refuses what is done, taken back and made again, and nothing has changed then.
func TestFull(t *testing.T) {
	d := started(t, 256, one())
	var err api.Errno
	for err == api.OK {
		err = d.Do(1, d.Version(), set(t, "A1", "=NOW()+"+string(rune('1'+d.Version()))))
	}
	version, asked, before := d.Version(), d.Asked(), file(t, d)
	if err != api.ErrFull || version < 1 || d.Undo(1) != api.ErrFull || d.Version() != version || d.Asked() != asked || file(t, d) != before {
		t.Errorf("error %d, version %d, then %d", err, version, d.Version())
	}
	for i := range 60 {
		b := one()
		b.Sheets[0].Cells = []api.Cell{{Input: strings.Repeat("x", i+1)}}
		d := started(t, 320, b)
		if d.Do(1, 0, set(t, "A1", "1")) != api.OK || d.Undo(1) != api.OK {
			continue
		}
		before := file(t, d)
		if err := d.Redo(1); err == api.ErrFull && d.Version() == 2 && file(t, d) == before {
			return
		}
	}
	t.Error("Redo is never refused")
}

// P28.2: what was made against an elder version is done behind all that was not seen.
func TestBase(t *testing.T) {
	d := started(t, 4096, one())
	ok(t, d.Do(1, 0, rowsIn(1, 1)))
	ok(t, d.Do(2, 0, set(t, "A2", "=A3")))
	ok(t, d.Do(3, 1, set(t, "B3", "5")))
	ok(t, d.Do(3, 3, rowsIn(0, 2)))
	ok(t, d.Do(4, 1, set(t, "C1", "x")))
	want := api.Book{Sheets: []api.Sheet{{Name: "S", Cells: []api.Cell{{Row: 2, Col: 2, Input: "x"}, {Row: 4, Input: "=A6"}, {Row: 4, Col: 1, Input: "5"}}}}}
	if b, err := d.Book(); !book.Same(b, want) || err != api.OK {
		t.Errorf("%+v, error %d; want %+v", b, err, want)
	}
	ok(t, d.Undo(1))
	ok(t, d.Do(5, 6, set(t, "C9", "=A1")))
	ok(t, d.Do(6, 6, set(t, "C10", "=A1")))
	if err := d.Do(5, 5, set(t, "C9", "=A1")); err != api.ErrBase {
		t.Errorf("Do against what was ahead of an undo: error %d", err)
	}
}

// P28.1: the time.
func TestTick(t *testing.T) {
	d, err := desk.New(4096)
	ok(t, err)
	ok(t, d.Tick(api.Dec{M: 7}))
	b := one()
	b.Sheets[0].Cells = []api.Cell{{Input: "=NOW()"}, {Col: 1, Input: "=A1+1"}, {Col: 2, Input: "=1+1"}}
	ok(t, d.Start(b))
	if shows(t, d, "B1") != "8" || d.Asked() != 3 {
		t.Errorf("B1 shows %s, asked %d", shows(t, d, "B1"), d.Asked())
	}
	ok(t, d.Tick(api.Dec{M: 7}))
	if d.Asked() != 3 {
		t.Errorf("at the same time is asked: %d", d.Asked())
	}
	ok(t, d.Tick(api.Dec{M: -5, E: -1}))
	if shows(t, d, "A1") != "-0.5" || shows(t, d, "B1") != "0.5" || d.Asked() != 5 || d.Version() != 0 {
		t.Errorf("A1 shows %s, B1 %s, asked %d", shows(t, d, "A1"), shows(t, d, "B1"), d.Asked())
	}
	ok(t, d.Sync())
	ok(t, d.Crash(nil))
	if shows(t, d, "A1") != "-0.5" || d.Asked() != 3 {
		t.Errorf("behind a crash A1 shows %s, asked %d", shows(t, d, "A1"), d.Asked())
	}
}

// P28.3: crashes, and what they leave.
func TestCrash(t *testing.T) {
	d := started(t, 4096, one())
	ok(t, d.Crash(nil))
	if _, err := d.Book(); err != api.ErrDesk {
		t.Errorf("a start that was not synced is there: error %d", err)
	}
	ok(t, d.Start(one()))
	ok(t, d.Do(1, 0, set(t, "A1", "1")))
	ok(t, d.Sync())
	ok(t, d.Do(3, 1, set(t, "A1", "2")))
	ok(t, d.Undo(1))
	if d.Version() != 3 {
		t.Errorf("version %d", d.Version())
	}
	ok(t, d.Crash(nil))
	if d.Version() != 1 || shows(t, d, "A1") != "1" {
		t.Errorf("version %d, A1 shows %s", d.Version(), shows(t, d, "A1"))
	}
	ok(t, d.Do(3, 0, set(t, "B1", "=A1+1")))
	ok(t, d.Undo(1))
	ok(t, d.Redo(1))
	ok(t, d.Undo(3))
	ok(t, d.Sync())
	ok(t, d.Crash(nil))
	if d.Version() != 5 || shows(t, d, "A1") != "1" || shows(t, d, "B1") != "" || d.Do(2, 4, set(t, "C1", "1")) != api.ErrBase {
		t.Errorf("version %d, A1 shows %s, B1 %s", d.Version(), shows(t, d, "A1"), shows(t, d, "B1"))
	}
	ok(t, d.Redo(3))
	if shows(t, d, "B1") != "2" {
		t.Errorf("what was taken back ahead of a crash, made again, shows %s", shows(t, d, "B1"))
	}
}

// step is one call at random, done at desks and at the model alike.
func step(t *testing.T, x *dice, m *model) (func(d *desk.Desk) api.Errno, api.Errno) {
	t.Helper()
	author, version, kind := 1+x.below(3), len(m.store.Entries()), x.below(16)
	if !m.isStarted() && x.below(3) > 0 {
		kind = 7
	}
	switch kind {
	case 0:
		keep := x.keep(m.disk.Pending() + x.below(8)/7)
		return func(d *desk.Desk) api.Errno { return d.Crash(keep) }, m.crash(t, keep)
	case 1, 2:
		return func(d *desk.Desk) api.Errno { return d.Sync() }, m.store.Sync()
	case 3:
		now := api.Dec{M: 1 + x.below(3)}
		return func(d *desk.Desk) api.Errno { return d.Tick(now) }, m.tick(now)
	case 4, 5:
		return func(d *desk.Desk) api.Errno { return d.Undo(author) }, m.turn(api.OpUndo, author)
	case 6:
		return func(d *desk.Desk) api.Errno { return d.Redo(author) }, m.turn(api.OpRedo, author)
	case 7:
		return func(d *desk.Desk) api.Errno { return d.Start(sheets()) }, m.start(sheets())
	}
	base, o := version-x.below(3)+x.below(9)/8, x.op()
	return func(d *desk.Desk) api.Errno { return d.Do(author, base, o) }, m.do(author, base, o)
}

// P28.1 to P28.4 held against the chapter's words, at two desks that do the same.
func TestMany(t *testing.T) {
	x, done := dice(1), map[api.Errno]int{}
	for range 60 {
		const size = 8192
		first, err := desk.New(size)
		ok(t, err)
		second, err := desk.New(size)
		ok(t, err)
		m := newModel(t, size)
		for range 40 {
			call, want := step(t, &x, m)
			if a, b := call(first), call(second); a != want || b != want {
				t.Fatalf("errors %d and %d; want %d", a, b, want)
			}
			done[want]++
			holds(t, first, m)
			holds(t, second, m)
		}
	}
	if done[api.OK] < 1000 || done[api.ErrKeep] < 10 || done[api.ErrBase] < 50 || done[api.ErrUndo] < 50 || done[api.ErrTangled] < 5 {
		t.Errorf("done: %v", done)
	}
}

// What is told is new memory, and what was handed in is not kept.
func TestMemory(t *testing.T) {
	b := sheets()
	d := started(t, 8192, b)
	o := api.Op{Kind: api.OpTable, Table: api.Table{Name: "Tab", Sheet: 1, Row: 2, Rows: 2, Cols: []string{"a", "b"}}}
	ok(t, d.Do(1, 0, o))
	want := file(t, d)
	b.Sheets[0].Cells[0].Input, b.Names[0].Name, o.Table.Cols[0] = "changed", "changed", "changed"
	told, err := d.Book()
	ok(t, err)
	told.Sheets[0].Cells[0].Input, told.Tables[0].Cols[0] = "changed", "changed"
	ok(t, d.Do(1, 1, set(t, "Z9", "1")))
	ok(t, d.Undo(1))
	if file(t, d) != want {
		t.Error("a desk shares memory")
	}
	if _, _, err := pack.Decode(want); err != api.OK {
		t.Errorf("error %d", err)
	}
}
