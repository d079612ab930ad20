package store_test

import (
	"strconv"
	"strings"
	"testing"

	"tabula/api"
	"tabula/book"
	"tabula/disk"
	logs "tabula/log"
	"tabula/pack"
	"tabula/store"
)

func sheets() api.Book {
	return api.Book{
		Sheets: []api.Sheet{{Name: "S", Cells: []api.Cell{{Input: `\n\`}, {Row: 10, Col: 5, Input: "=A1"}}}, {Name: "Two x"}},
		Names:  []api.Name{{Name: "n", Sheet: -1, Input: "=S!A1"}},
		Tables: []api.Table{{Name: "tab", Sheet: 1, Row: 2, Col: 3, Rows: 4, Cols: []string{"a b", "n"}}},
	}
}

func one() api.Book { return api.Book{Sheets: []api.Sheet{{Name: "S"}}} }

func set(author int, s string) api.Entry {
	return api.Entry{Author: author, Op: api.Op{Kind: api.OpSet, S: s}}
}

// entries are some of each kind.
func entries() []api.Entry {
	area := api.Area{Sheet: 1, Row: 2, Col: 3, Rows: 4, Cols: 5}
	return []api.Entry{
		set(3, "x"), set(0, ""), set(19, strings.Repeat(`\`, 200)), set(1, `=A1&"é\n"`), {Author: 2, Op: api.Op{Kind: api.OpSet, Sheet: 7, Row: 199, Col: 51, S: "1"}},
		{Author: 1, Op: api.Op{Kind: api.OpRowsIn, Sheet: 1, Row: 2, N: 3}}, {Op: api.Op{Kind: api.OpColsOut, Col: 51, N: 1}},
		{Op: api.Op{Kind: api.OpSheetIn, Name: "It's \\ x"}}, {Op: api.Op{Kind: api.OpSheetOut, Sheet: 7}}, {Op: api.Op{Kind: api.OpRename, Sheet: 1, Name: "V"}},
		{Op: api.Op{Kind: api.OpName, Sheet: -1, Name: "n", S: "=1"}}, {Op: api.Op{Kind: api.OpName, Sheet: -1, Name: "n"}},
		{Op: api.Op{Kind: api.OpTable, Table: api.Table{Name: "tab", Sheet: 1, Row: 2, Col: 3, Rows: 4, Cols: []string{"a b", "n"}}}}, {Op: api.Op{Kind: api.OpNoTable, Name: "tab"}},
		{Op: api.Op{Kind: api.OpRule, Rule: api.Rule{Area: area, Formula: "=A1>1", Style: 99}}}, {Op: api.Op{Kind: api.OpRule, Rule: api.Rule{Area: area, Formula: "=A1>1", Must: true}}}, {Op: api.Op{Kind: api.OpNoRule, N: 19}},
		{Author: 19, Op: api.Op{Kind: api.OpUndo}}, {Op: api.Op{Kind: api.OpRedo}},
	}
}

// noActions are entries that may not be put.
func noActions() []api.Entry {
	return []api.Entry{
		{}, set(-1, "x"), set(20, "x"), {Author: 1, Op: api.Op{Kind: api.OpSet, S: "x"}, Off: true, Again: api.Op{Kind: api.OpSet, S: "x"}}, {Op: api.Op{Kind: api.OpSet}, Off: true}, {Op: api.Op{Kind: api.OpSet}, Again: api.Op{Kind: api.OpSet}}, {Op: api.Op{Kind: api.OpSet}, Again: api.Op{N: 1}},
		set(1, "=1+"), set(1, "\n"), {Op: api.Op{Kind: api.OpSet, N: 1}}, {Op: api.Op{Kind: 16}}, {Op: api.Op{Kind: -1}}, {Op: api.Op{Kind: api.OpUndo, N: 1}}, {Op: api.Op{Kind: api.OpRedo, S: "x"}}, {Op: api.Op{Kind: api.OpUndo, Table: api.Table{Cols: []string{""}}}}, {Op: api.Op{Kind: api.OpUndo}, Author: 20}, {Op: api.Op{Kind: api.OpUndo}, Off: true}, {Op: api.Op{Kind: api.OpRedo}, Again: api.Op{Kind: api.OpUndo}},
	}
}

func n(list ...int) string {
	s := ""
	for _, n := range list {
		s += strconv.Itoa(n) + " "
	}
	return s
}

func txt(list ...string) string {
	s := ""
	for _, t := range list {
		s += n(len(t)) + t
	}
	return s
}

// payload is an entry's, as the chapter says.
func payload(e api.Entry) string {
	o, t, r := e.Op, e.Op.Table, e.Op.Rule
	must := 0
	if r.Must {
		must = 1
	}
	return "E" + n(o.Kind, o.Sheet, o.Row, o.Col, o.N) + txt(o.S, o.Name, t.Name) + n(t.Sheet, t.Row, t.Col, t.Rows, len(t.Cols)) + txt(t.Cols...) +
		n(r.Area.Sheet, r.Area.Row, r.Area.Col, r.Area.Rows, r.Area.Cols) + txt(r.Formula) + n(r.Style, must, e.Author)
}

// record is that of a payload, as the chapter says.
func record(payload string) string {
	sum := strconv.FormatInt(int64(pack.Sum(payload))+1<<40, 16)
	s := strings.ReplaceAll(payload, `\`, `\\`)
	s = strings.ReplaceAll(s, "\x00", `\0`)
	s = strings.ReplaceAll(s, "\n", `\n`)
	return sum[len(sum)-8:] + " " + s + "\n"
}

// records are those of a workbook and some entries.
func records(t *testing.T, b api.Book, l ...api.Entry) string {
	t.Helper()
	file, err := pack.Encode(b)
	if err != api.OK {
		t.Fatalf("Encode: error %d", err)
	}
	s := record("B" + file)
	for _, e := range l {
		s += record(payload(e))
	}
	return s
}

func made(t *testing.T, size int) *disk.Disk {
	t.Helper()
	d, err := disk.New(size)
	if err != api.OK {
		t.Fatalf("New(%d): error %d", size, err)
	}
	return d
}

// with is a disk that begins with that, and has something else behind it.
func with(t *testing.T, size int, s string) *disk.Disk {
	t.Helper()
	d := made(t, size)
	if err := d.Write(0, s); err != api.OK {
		t.Fatalf("Write: error %d", err)
	}
	return d
}

func open(t *testing.T, d *disk.Disk) *store.Store {
	t.Helper()
	s, err := store.Open(d)
	if s == nil || err != api.OK {
		t.Fatalf("Open: error %d", err)
	}
	return s
}

// started is an open store, and its disk.
func started(t *testing.T, size int, b api.Book) (*store.Store, *disk.Disk) {
	t.Helper()
	d := made(t, size)
	s := open(t, d)
	if err := s.Start(b); err != api.OK {
		t.Fatalf("Start: error %d", err)
	}
	return s, d
}

func whole(t *testing.T, d *disk.Disk) string {
	t.Helper()
	s, err := d.Read(0, d.Size())
	if err != api.OK {
		t.Fatalf("Read: error %d", err)
	}
	return s
}

// has holds all that a store tells against what is wanted.
func has(t *testing.T, s *store.Store, b api.Book, l []api.Entry, synced int) {
	t.Helper()
	if !book.Same(s.Book(), b) || !logs.Same(s.Entries(), l) || s.Synced() != synced {
		t.Errorf("the store has %+v and\n%+v, %d synced; want %+v and\n%+v, %d", s.Book(), s.Entries(), s.Synced(), b, l, synced)
	}
}

// dice are numbers that look like chance, and are the same in each run.
type dice uint64

func (d *dice) below(n int) int {
	*d = *d*6364136223846793005 + 1442695040888963407
	return int(uint64(*d)>>33) % n
}

// keep are some of so many pieces, some of them by half, in some order; or all, or none.
func (d *dice) keep(n int) []int {
	var list []int
	most := d.below(5)
	for k := range n {
		switch d.below(4) {
		case 0:
			list = append(list, -1-k)
		default:
			if d.below(4) < most {
				list = append(list, k)
			}
		}
	}
	for i := range list {
		k := d.below(i + 1)
		list[i], list[k] = list[k], list[i]
	}
	return list
}
