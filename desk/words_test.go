package desk_test

import (
	"testing"

	"tabula/api"
	"tabula/book"
	"tabula/calc"
	"tabula/desk"
	"tabula/disk"
	logs "tabula/log"
	"tabula/recalc"
	"tabula/store"
	"tabula/undo"
	"tabula/val"
)

// model is a desk by the chapter's words: its store alone keeps something, and its log is made of that each time.
type model struct {
	disk   *disk.Disk
	store  *store.Store
	now    api.Dec
	engine *recalc.Engine
}

func newModel(t *testing.T, size int) *model {
	t.Helper()
	k, err := disk.New(size)
	ok(t, err)
	s, err := store.Open(k)
	ok(t, err)
	return &model{disk: k, store: s, engine: recalc.New()}
}

func (m *model) isStarted() bool { return len(m.store.Book().Sheets) > 0 }

// logs are those of all versions.
func (m *model) logs() [][]api.Entry {
	list := [][]api.Entry{nil}
	for i, e := range m.store.Entries() {
		l, err := list[i], api.OK
		switch e.Op.Kind {
		case api.OpUndo:
			l, err = undo.Undo(m.store.Book(), l, e.Author)
		case api.OpRedo:
			l, err = undo.Redo(m.store.Book(), l, e.Author)
		default:
			l = append(append([]api.Entry(nil), l...), e)
		}
		if err != api.OK {
			l = list[i]
		}
		list = append(list, l)
	}
	return list
}

func (m *model) book() api.Book {
	list := m.logs()
	b, _ := logs.Replay(m.store.Book(), list[len(list)-1])
	return b
}

func (m *model) show(err api.Errno) api.Errno {
	if m.isStarted() && err == api.OK {
		m.engine.Show(m.book(), m.now)
	}
	return err
}

func (m *model) start(b api.Book) api.Errno { return m.show(m.store.Start(b)) }

func (m *model) tick(now api.Dec) api.Errno {
	m.now = now
	return m.show(api.OK)
}

func (m *model) do(author int, base int, o api.Op) api.Errno {
	if !m.isStarted() {
		return api.ErrDesk
	}
	first, entries := 0, m.store.Entries()
	for i, e := range entries {
		if e.Op.Kind == api.OpUndo || e.Op.Kind == api.OpRedo {
			first = i + 1
		}
	}
	if base < first || base > len(entries) {
		return api.ErrBase
	}
	list := m.logs()
	last := list[len(list)-1]
	l, err := logs.Submit(m.store.Book(), last, author, len(list[base]), o)
	if err != api.OK {
		return err
	}
	return m.show(m.store.Put(l[len(last)]))
}

func (m *model) turn(kind int, author int) api.Errno {
	if !m.isStarted() {
		return api.ErrDesk
	}
	list := m.logs()
	last, err := list[len(list)-1], api.OK
	if kind == api.OpUndo {
		_, err = undo.Undo(m.store.Book(), last, author)
	} else {
		_, err = undo.Redo(m.store.Book(), last, author)
	}
	if err != api.OK {
		return err
	}
	return m.show(m.store.Put(api.Entry{Author: author, Op: api.Op{Kind: kind}}))
}

func (m *model) crash(t *testing.T, keep []int) api.Errno {
	t.Helper()
	if err := m.disk.Crash(keep); err != api.OK {
		return err
	}
	s, err := store.Open(m.disk)
	ok(t, err)
	m.store, m.engine = s, recalc.New()
	return m.show(api.OK)
}

// holds holds a desk against the model, and against calculating from nothing.
func holds(t *testing.T, d *desk.Desk, m *model) {
	t.Helper()
	b, err := d.Book()
	if !m.isStarted() {
		_, wrong := d.Value(api.At{})
		if err != api.ErrDesk || wrong != api.ErrDesk || d.Version() != 0 || d.Asked() != 0 {
			t.Fatalf("not started: errors %d and %d, version %d, asked %d", err, wrong, d.Version(), d.Asked())
		}
		return
	}
	if want := m.book(); !book.Same(b, want) || err != api.OK || d.Version() != len(m.store.Entries()) || d.Asked() != m.engine.Asked() {
		t.Fatalf("version %d, asked %d, error %d:\n%+v; want version %d, asked %d:\n%+v", d.Version(), d.Asked(), err, b, len(m.store.Entries()), m.engine.Asked(), want)
	}
	asIfNothing(t, d, b, m.now)
	for _, place := range []api.At{{Sheet: len(b.Sheets)}, {Row: -1}, {Col: 52}} {
		if v, err := d.Value(place); !val.Same(v, api.Val{}) || err != api.ErrArg {
			t.Fatalf("at %+v: %+v, error %d", place, v, err)
		}
	}
}

// asIfNothing holds what a desk shows against what calculating its workbook from nothing shows.
func asIfNothing(t *testing.T, d *desk.Desk, b api.Book, now api.Dec) {
	t.Helper()
	l, err := calc.Values(b, now)
	ok(t, err)
	shown := map[api.At]api.Val{}
	for _, s := range l {
		shown[s.At] = s.V
	}
	for sheet := range len(b.Sheets) {
		for row := range 20 {
			for col := range 12 {
				place := api.At{Sheet: sheet, Row: row, Col: col}
				if v, err := d.Value(place); !val.Same(v, shown[place]) || err != api.OK {
					t.Fatalf("at %+v of %+v is shown %+v, error %d; want %+v", place, b, v, err, shown[place])
				}
			}
		}
	}
}
