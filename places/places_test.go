package places_test

import (
	"math"
	"slices"
	"testing"

	"tabula/api"
	"tabula/places"
	"tabula/right"
)

// Places stand by their sheets, then by their rows, then by their columns.
func TestCompare(t *testing.T) {
	list := []api.At{{Sheet: math.MinInt, Row: 9}, {Row: -1, Col: 9}, {Col: -1}, {}, {Col: 1}, {Col: math.MaxInt}, {Row: 1}, {Row: math.MaxInt, Col: 3}, {Sheet: 1}, {Sheet: 1, Col: 1}, {Sheet: math.MaxInt}}
	for i, a := range list {
		for j, b := range list {
			want := 0
			if i < j {
				want = -1
			} else if i > j {
				want = 1
			}
			if c := places.Compare(a, b); c != want {
				t.Errorf("Compare(%+v, %+v): %d", a, b, c)
			}
		}
	}
}

// The places of an area come in order, and may be left early.
func TestIn(t *testing.T) {
	a := api.Area{Sheet: 3, Row: 1, Col: 2, Rows: 2, Cols: 3}
	want := []api.At{{Sheet: 3, Row: 1, Col: 2}, {Sheet: 3, Row: 1, Col: 3}, {Sheet: 3, Row: 1, Col: 4}, {Sheet: 3, Row: 2, Col: 2}, {Sheet: 3, Row: 2, Col: 3}, {Sheet: 3, Row: 2, Col: 4}}
	if got := slices.Collect(places.In(a)); !slices.Equal(got, want) {
		t.Errorf("In: %v", got)
	}
	for at := range places.In(a) {
		if at.Row == 1 && at.Col == 3 {
			break
		}
	}
	if got := slices.Collect(places.In(api.Area{Rows: -1, Cols: 2})); len(got) > 0 {
		t.Errorf("In of no rows: %v", got)
	}
}

// A cell, a spill and a table have areas; of a table the head is one row more.
func TestAreas(t *testing.T) {
	at := api.At{Sheet: 1, Row: 2, Col: 3}
	if a := places.OfCell(at); a != (api.Area{Sheet: 1, Row: 2, Col: 3, Rows: 1, Cols: 1}) {
		t.Errorf("OfCell: %+v", a)
	}
	if a := places.OfSpill(api.Spill{At: at, Rows: 4, Cols: 5}); a != (api.Area{Sheet: 1, Row: 2, Col: 3, Rows: 4, Cols: 5}) {
		t.Errorf("OfSpill: %+v", a)
	}
	if a := places.OfTable(api.Table{Sheet: 1, Row: 2, Col: 3, Rows: 4, Cols: []string{"a", "b"}}); a != (api.Area{Sheet: 1, Row: 2, Col: 3, Rows: 5, Cols: 2}) {
		t.Errorf("OfTable: %+v", a)
	}
	if right.Area(places.OfTable(api.Table{Rows: math.MaxInt, Cols: []string{"a"}})) {
		t.Error("a table of as many rows as there are numbers has a right area")
	}
}
