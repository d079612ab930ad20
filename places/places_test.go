package places_test

import (
	"math"
	"testing"

	"tabula/api"
	"tabula/places"
	"tabula/right"
)

// Places stand by their sheets, then by their rows, then by their columns.
func TestCompare(t *testing.T) {
	list := []api.At{{Sheet: math.MinInt, Row: 9}, {Row: -1, Col: 9}, {Col: -1}, {}, {Col: 1}, {Col: math.MaxInt}, {Row: 1}, {Row: math.MaxInt, Col: 3}, {Sheet: 1}, {Sheet: 1, Col: 1}, {Sheet: math.MaxInt}}
	for i, a := range list {
		for j, b := range list {
			want := 0
			if i < j {
				want = -1
			} else if i > j {
				want = 1
			}
			if c := places.Compare(a, b); c != want {
				t.Errorf("Compare(%+v, %+v): %d", a, b, c)
			}
		}
	}
}

// A cell, a spill and a table have areas; of a table the head is one row more.
func TestAreas(t *testing.T) {
	at := api.At{Sheet: 1, Row: 2, Col: 3}
	if a := places.OfCell(at); a != (api.Area{Sheet: 1, Row: 2, Col: 3, Rows: 1, Cols: 1}) {
		t.Errorf("OfCell: %+v", a)
	}
	if a := places.OfSpill(api.Spill{At: at, Rows: 4, Cols: 5}); a != (api.Area{Sheet: 1, Row: 2, Col: 3, Rows: 4, Cols: 5}) {
		t.Errorf("OfSpill: %+v", a)
	}
	if a := places.OfTable(api.Table{Sheet: 1, Row: 2, Col: 3, Rows: 4, Cols: []string{"a", "b"}}); a != (api.Area{Sheet: 1, Row: 2, Col: 3, Rows: 5, Cols: 2}) {
		t.Errorf("OfTable: %+v", a)
	}
	if right.Area(places.OfTable(api.Table{Rows: math.MaxInt, Cols: []string{"a"}})) {
		t.Error("a table of as many rows as there are numbers has a right area")
	}
}
