package pack_test

import (
	"encoding/hex"
	"strconv"
	"strings"
	"testing"

	"tabula/api"
	"tabula/book"
)

// sheets has something of everything; bodies are those of its file.
func sheets() api.Book {
	return api.Book{
		Sheets: []api.Sheet{{Name: "S", Cells: []api.Cell{{Input: "1"}, {Row: 1, Col: 51, Input: "=A1"}}}, {Name: "T"}},
		Names:  []api.Name{{Name: "n", Sheet: -1, Input: "=S!A1"}, {Name: "S", Sheet: 1, Input: "=A1"}},
		Tables: []api.Table{{Name: "tab", Sheet: 1, Row: 2, Col: 3, Rows: 4, Cols: []string{"a b", "n"}}},
		Rules:  []api.Rule{{Area: api.Area{Row: 1, Col: 2, Rows: 199, Cols: 4}, Formula: "=A1>1", Style: 99}, {Area: api.Area{Sheet: 1, Rows: 1, Cols: 1}, Formula: "=A1", Must: true}},
	}
}

func bodies() []string {
	return []string{
		"0009 0001 31 0003 3d4131 0005 3d41313e31 0005 3d53214131 0001 53 0001 54 0003 612062 0001 6e 0003 746162",
		"02 0004 0002 00 01 00 33 0000 0001  0005 0000",
		"02 0007 0004 00 02 0003 0001",
		"01 0008 01 02 03 04 02 0006 0007",
		"02  00 01 02 c7 04 0002 63 00  01 00 00 01 01 0001 00 01",
	}
}

func bytes(t *testing.T, s string) string {
	t.Helper()
	b, err := hex.DecodeString(strings.ReplaceAll(s, " ", ""))
	if err != nil {
		t.Fatalf("%s: %v", s, err)
	}
	return string(b)
}

// four are the bytes of a number in four bytes.
func four(n int) string {
	return string([]byte{byte(n >> 24), byte(n >> 16), byte(n >> 8), byte(n)})
}

func sum(s string) int {
	n := 1
	for _, b := range []byte(s) {
		n = (257*n + int(b) + 1) % 4294967291
	}
	return n
}

// file is one of bodies told in hexadecimal.
func file(t *testing.T, bodies ...string) string {
	t.Helper()
	s := "TBL1"
	for i, body := range bodies {
		body = bytes(t, body)
		s += string(rune(i+1)) + four(len(body)) + body + four(sum(body))
	}
	return s
}

// dice are numbers that look like chance, and are the same in each run.
type dice uint64

func (d *dice) below(n int) int {
	*d = *d*6364136223846793005 + 1442695040888963407
	return int(uint64(*d)>>33) % n
}

func (d *dice) one(list ...string) string { return list[d.below(len(list))] }

func (d *dice) area(sheets int) api.Area {
	row, col := d.below(200), d.below(52)
	return api.Area{Sheet: d.below(sheets), Row: row, Col: col, Rows: 1 + d.below(200-row), Cols: 1 + d.below(52-col)}
}

// book is a right one.
func (d *dice) book() api.Book {
	var b api.Book
	for i := range 1 + d.below(8) {
		s := api.Sheet{Name: d.one("S", "Two x", "é", "It's", "=A1") + strconv.Itoa(i)}
		for row := range d.below(9) {
			for col := range d.below(7) {
				s.Cells = append(s.Cells, api.Cell{Row: row * 20, Col: col * 8, Input: d.one("1", "x", "=A1", "=SUM(A1:B2)", "'", "é", s.Name, strings.Repeat("y", 1+d.below(199)))})
			}
		}
		b.Sheets = append(b.Sheets, s)
	}
	for i := range d.below(6) {
		b.Names = append(b.Names, api.Name{Name: d.one("n", "x.", "_") + strconv.Itoa(i) + "_", Sheet: d.below(len(b.Sheets)+1) - 1, Input: d.one("=1", "=S!A1", "=#REF!")})
	}
	for i := range d.below(3) {
		b.Tables = append(b.Tables, api.Table{Name: "t." + strconv.Itoa(i), Sheet: d.below(len(b.Sheets)), Row: 10 * i, Col: d.below(49), Rows: 1 + d.below(9), Cols: []string{"a", "b", "S0"}[:1+d.below(3)]})
	}
	for range d.below(4) {
		r := api.Rule{Area: d.area(len(b.Sheets)), Formula: d.one("=1", "=A1>1", "=TRUE"), Style: 1 + d.below(99)}
		if d.below(2) == 0 {
			r.Style, r.Must = 0, true
		}
		b.Rules = append(b.Rules, r)
	}
	if _, err := book.Check(b); err != api.OK {
		return d.book()
	}
	return b
}
