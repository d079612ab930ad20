package what_test

import (
	"strings"
	"testing"

	"tabula/api"
	"tabula/book"
	"tabula/dec"
	"tabula/ref"
	"tabula/val"
)

// at is a place told as `A1`, or `T!A1`.
func at(t *testing.T, place string) api.At {
	t.Helper()
	r, err := ref.Read(place)
	if err != api.OK {
		t.Fatalf("%s: error %d", place, err)
	}
	sheet, _ := book.Sheet(api.Book{Sheets: []api.Sheet{{Name: "S"}, {Name: "T"}}}, r.Sheet)
	return api.At{Sheet: sheet, Row: r.Row, Col: r.Col}
}

// places are some, with blanks between.
func places(t *testing.T, list string) []api.At {
	t.Helper()
	var l []api.At
	for _, place := range strings.Fields(list) {
		l = append(l, at(t, place))
	}
	return l
}

// sheets is a workbook of two sheets, and cells told as `A1: input | T!B1: input`.
func sheets(t *testing.T, cells string) api.Book {
	t.Helper()
	b := api.Book{Sheets: []api.Sheet{{Name: "S"}, {Name: "T"}}}
	for _, s := range strings.Split(cells, " | ") {
		place, input, found := strings.Cut(s, ": ")
		if !found {
			continue
		}
		set, err := book.Set(b, at(t, place), input)
		if err != api.OK {
			t.Fatalf("%s: error %d", s, err)
		}
		b = set
	}
	return b
}

func num(t *testing.T, s string) api.Dec {
	t.Helper()
	n, err := dec.Read(s)
	if err != api.OK {
		t.Fatalf("%s: error %d", s, err)
	}
	return n
}

func text(v api.Val) string {
	s, _ := val.Text(v)
	return s
}

func full() api.Book {
	b := api.Book{Sheets: []api.Sheet{{Name: "S"}, {Name: "T"}}}
	for i := range 400 {
		b.Sheets[0].Cells = append(b.Sheets[0].Cells, api.Cell{Row: i / 40, Col: i % 40, Input: "1"})
	}
	return b
}

// dice are numbers that look like chance, and are the same in each run.
type dice uint64

func (d *dice) below(n int) int {
	*d = *d*6364136223846793005 + 1442695040888963407
	return int(uint64(*d)>>33) % n
}

func (d *dice) one(list ...string) string { return list[d.below(len(list))] }
