package ref_test

import (
	"math"
	"testing"

	"tabula/api"
	"tabula/ref"
)

// wrongAreas are areas without a place, or with one that is not right.
func wrongAreas() []api.Area {
	list := []api.Area{
		{}, {Rows: 1}, {Cols: 1}, {Rows: -1, Cols: 1}, {Rows: 1, Cols: -1}, {Rows: -1, Cols: -1}, {Sheet: -1, Rows: 1, Cols: 1}, {Sheet: 8, Rows: 1, Cols: 1},
		{Row: -1, Rows: 2, Cols: 1}, {Col: -1, Rows: 1, Cols: 2}, {Rows: 201, Cols: 1}, {Rows: 1, Cols: 53}, {Row: 199, Rows: 2, Cols: 1}, {Col: 51, Rows: 1, Cols: 2}, {Row: 200, Rows: 1, Cols: 1}, {Col: 52, Rows: 1, Cols: 1}, {Row: 200, Cols: 1}, {Col: 52, Rows: 1},
	}
	for _, n := range []int{math.MinInt, math.MaxInt} {
		list = append(list, api.Area{Sheet: n, Rows: 1, Cols: 1}, api.Area{Row: n, Rows: 1, Cols: 1}, api.Area{Col: n, Rows: 1, Cols: 1}, api.Area{Row: 1, Rows: n, Cols: 1}, api.Area{Col: 1, Rows: 1, Cols: n}, api.Area{Row: n, Rows: n, Cols: 1}, api.Area{Col: n, Rows: 1, Cols: n}, api.Area{Row: 199, Col: 51, Rows: n, Cols: n})
	}
	return list
}

func someArea(d *dice) api.Area {
	a := api.Area{Sheet: d.below(2), Row: d.below(8), Col: d.below(8)}
	if d.below(4) == 0 {
		a.Row, a.Col = 192+d.below(8), 44+d.below(8)
	}
	a.Rows, a.Cols = 1+d.below(8), 1+d.below(8)
	if a.Row > 8 {
		a.Rows = min(a.Rows, 200-a.Row)
		a.Cols = min(a.Cols, 52-a.Col)
	}
	return a
}

// P2.5: the area between two references.
func TestArea(t *testing.T) {
	for _, c := range []struct {
		a, b  string
		sheet int
		want  api.Area
	}{
		{"C5", "A7", 2, api.Area{Sheet: 2, Row: 4, Col: 0, Rows: 3, Cols: 3}},
		{"A1", "A1", 0, api.Area{Rows: 1, Cols: 1}},
		{"A1", "AZ200", 7, api.Area{Sheet: 7, Rows: 200, Cols: 52}},
		{"AZ200", "A1", 7, api.Area{Sheet: 7, Rows: 200, Cols: 52}},
		{"$B$9", "c$2", 1, api.Area{Sheet: 1, Row: 1, Col: 1, Rows: 8, Cols: 2}},
		{"S!B9", "T!B10", 1, api.Area{Sheet: 1, Row: 8, Col: 1, Rows: 2, Cols: 1}},
		{"D4", "B4", 3, api.Area{Sheet: 3, Row: 3, Col: 1, Rows: 1, Cols: 3}},
	} {
		a, _ := ref.Read(c.a)
		b, _ := ref.Read(c.b)
		if got, err := ref.Area(a, b, c.sheet); got != c.want || err != api.OK {
			t.Errorf("Area(%s, %s, %d): %+v, error %d; want %+v", c.a, c.b, c.sheet, got, err, c.want)
		}
	}
	wrong := append(wrongs(), api.Ref{Bad: true})
	for _, r := range wrong {
		for _, p := range [][2]api.Ref{{r, {}}, {{}, r}, {r, r}} {
			if got, err := ref.Area(p[0], p[1], 0); got != (api.Area{}) || err != api.ErrRef {
				t.Errorf("Area(%+v, %+v, 0): %+v, error %d; want ErrRef", p[0], p[1], got, err)
			}
		}
	}
	for _, sheet := range []int{-1, 8, math.MinInt, math.MaxInt} {
		for _, r := range append(wrong, api.Ref{}) {
			if got, err := ref.Area(r, api.Ref{}, sheet); got != (api.Area{}) || err != api.ErrArg {
				t.Errorf("Area(%+v, A1, %d): %+v, error %d; want ErrArg", r, sheet, got, err)
			}
		}
	}
}

// P2.6: which places an area has.
func TestHas(t *testing.T) {
	a := api.Area{Sheet: 1, Row: 2, Col: 3, Rows: 2, Cols: 3}
	for row := range 7 {
		for col := range 9 {
			want := row >= 2 && row <= 3 && col >= 3 && col <= 5
			if ref.Has(a, api.At{Sheet: 1, Row: row, Col: col}) != want || ref.Has(a, api.At{Sheet: 0, Row: row, Col: col}) {
				t.Errorf("Has of row %d, column %d", row, col)
			}
		}
	}
	whole := api.Area{Sheet: 7, Rows: 200, Cols: 52}
	for _, at := range []api.At{{Sheet: 7}, {Sheet: 7, Row: 199, Col: 51}} {
		if !ref.Has(whole, at) {
			t.Errorf("Has(%+v) is false", at)
		}
	}
	for _, n := range []int{math.MinInt, math.MaxInt, -1, 200} {
		for _, at := range []api.At{{Sheet: 7, Row: n}, {Sheet: 7, Col: n}, {Sheet: n}} {
			if ref.Has(whole, at) {
				t.Errorf("Has(%+v) is true", at)
			}
		}
	}
	for _, w := range wrongAreas() {
		for row := range 2 {
			for col := range 2 {
				if at := (api.At{Sheet: w.Sheet, Row: w.Row + row, Col: w.Col + col}); ref.Has(w, at) {
					t.Errorf("Has(%+v, %+v) is true", w, at)
				}
			}
		}
	}
}

// P2.6, P2.8: where areas meet are the places that both have.
func TestMeet(t *testing.T) {
	for _, c := range []struct{ a, b, want api.Area }{
		{api.Area{Rows: 3, Cols: 3}, api.Area{Row: 1, Col: 2, Rows: 5, Cols: 5}, api.Area{Row: 1, Col: 2, Rows: 2, Cols: 1}},
		{api.Area{Rows: 200, Cols: 52}, api.Area{Row: 199, Col: 51, Rows: 1, Cols: 1}, api.Area{Row: 199, Col: 51, Rows: 1, Cols: 1}},
		{api.Area{Sheet: 7, Row: 3, Rows: 2, Cols: 52}, api.Area{Sheet: 7, Col: 4, Rows: 200, Cols: 2}, api.Area{Sheet: 7, Row: 3, Col: 4, Rows: 2, Cols: 2}},
		{api.Area{Rows: 3, Cols: 3}, api.Area{Row: 3, Rows: 3, Cols: 3}, api.Area{}},
		{api.Area{Rows: 3, Cols: 3}, api.Area{Col: 3, Rows: 3, Cols: 3}, api.Area{}},
		{api.Area{Rows: 3, Cols: 3}, api.Area{Row: 9, Col: 9, Rows: 3, Cols: 3}, api.Area{}},
		{api.Area{Rows: 3, Cols: 3}, api.Area{Sheet: 1, Rows: 3, Cols: 3}, api.Area{}},
	} {
		for _, p := range [][2]api.Area{{c.a, c.b}, {c.b, c.a}} {
			if got, ok := ref.Meet(p[0], p[1]); got != c.want || ok != (c.want != api.Area{}) {
				t.Errorf("Meet(%+v, %+v): %+v, %v; want %+v", p[0], p[1], got, ok, c.want)
			}
		}
	}
	d := dice(3)
	for range 3000 {
		a, b := someArea(&d), someArea(&d)
		m, ok := ref.Meet(a, b)
		if !ok && m != (api.Area{}) {
			t.Errorf("Meet(%+v, %+v): %+v beside false", a, b, m)
		}
		some := false
		for row := a.Row - 1; row <= a.Row+a.Rows; row++ {
			for col := a.Col - 1; col <= a.Col+a.Cols; col++ {
				at := api.At{Sheet: a.Sheet, Row: row, Col: col}
				both := ref.Has(a, at) && ref.Has(b, at)
				some = some || both
				if ref.Has(m, at) != both {
					t.Fatalf("Meet(%+v, %+v): %+v; %+v is in both: %v", a, b, m, at, both)
				}
			}
		}
		if some != ok || ok && (m.Rows > a.Rows || m.Cols > a.Cols) {
			t.Errorf("Meet(%+v, %+v): %+v, %v", a, b, m, ok)
		}
	}
	for _, w := range wrongAreas() {
		for _, a := range append(wrongAreas(), api.Area{Rows: 200, Cols: 52}) {
			for _, p := range [][2]api.Area{{w, a}, {a, w}} {
				if m, ok := ref.Meet(p[0], p[1]); ok || m != (api.Area{}) {
					t.Errorf("Meet(%+v, %+v): %+v, %v", p[0], p[1], m, ok)
				}
			}
		}
	}
}
