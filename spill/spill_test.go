package spill_test

import (
	"cmp"
	"math"
	"slices"
	"testing"

	"tabula/api"
	"tabula/book"
	"tabula/ref"
	"tabula/spill"
)

// dice are numbers that look like chance, and are the same in each run.
type dice uint64

func (d *dice) below(n int) int {
	*d = *d*6364136223846793005 + 1442695040888963407
	return int(uint64(*d)>>33) % n
}

func at(sheet int, row int, col int) api.At { return api.At{Sheet: sheet, Row: row, Col: col} }

func spills(l ...[5]int) []api.Spill {
	var list []api.Spill
	for _, x := range l {
		list = append(list, api.Spill{At: at(x[0], x[1], x[2]), Rows: x[3], Cols: x[4]})
	}
	return list
}

// sheets is a workbook of two sheets with cells at some places.
func sheets(t *testing.T, cells ...api.At) api.Book {
	t.Helper()
	b := api.Book{Sheets: []api.Sheet{{Name: "S"}, {Name: "T"}}}
	for _, at := range cells {
		set, err := book.Set(b, at, "x")
		if err != api.OK {
			t.Fatalf("Set of %+v: error %d", at, err)
		}
		b = set
	}
	return b
}

func checkPlace(t *testing.T, b api.Book, l []api.Spill, placed []api.Spill, blocked []api.At) {
	t.Helper()
	kept := slices.Clone(l)
	p, q, err := spill.Place(b, l)
	if !slices.Equal(p, placed) || !slices.Equal(q, blocked) || err != api.OK {
		t.Fatalf("Place(%v, %v): %v, %v, error %d; want %v, %v", b, l, p, q, err, placed, blocked)
	}
	if !slices.Equal(l, kept) {
		t.Fatal("what was handed in is another one")
	}
}

// P14.1: what blocks a spill: a cell, a spill ahead of it, the sheet's edge.
func TestPlace(t *testing.T) {
	a1, b1, b3, end := at(0, 0, 0), at(0, 0, 1), at(0, 2, 1), at(0, 199, 51)
	b := sheets(t, a1, b3)
	checkPlace(t, b, nil, nil, nil)
	checkPlace(t, b, spills([5]int{0, 0, 0, 2, 2}, [5]int{0, 2, 1, 9, 9}), spills([5]int{0, 0, 0, 2, 2}, [5]int{0, 2, 1, 9, 9}), nil)
	checkPlace(t, b, spills([5]int{0, 0, 0, 3, 2}, [5]int{0, 2, 1, 9, 9}), spills([5]int{0, 2, 1, 9, 9}), []api.At{a1})
	checkPlace(t, b, spills([5]int{0, 0, 0, 3, 1}), spills([5]int{0, 0, 0, 3, 1}), nil)
	checkPlace(t, sheets(t, a1, b1), spills([5]int{0, 0, 0, 1, 3}, [5]int{0, 0, 1, 1, 1}), spills([5]int{0, 0, 1, 1, 1}), []api.At{a1})
	checkPlace(t, sheets(t, a1, b1), spills([5]int{0, 0, 0, 2, 1}, [5]int{0, 0, 1, 2, 2}), spills([5]int{0, 0, 0, 2, 1}, [5]int{0, 0, 1, 2, 2}), nil)
	checkPlace(t, sheets(t, b1, at(0, 1, 0)), spills([5]int{0, 0, 1, 2, 1}, [5]int{0, 1, 0, 1, 2}), spills([5]int{0, 0, 1, 2, 1}), []api.At{at(0, 1, 0)})
	checkPlace(t, sheets(t, a1, at(1, 0, 1)), spills([5]int{0, 0, 0, 2, 2}, [5]int{1, 0, 1, 2, 2}), spills([5]int{0, 0, 0, 2, 2}, [5]int{1, 0, 1, 2, 2}), nil)
	checkPlace(t, sheets(t, end), spills([5]int{0, 199, 51, 1, 1}), spills([5]int{0, 199, 51, 1, 1}), nil)
	checkPlace(t, sheets(t, end), spills([5]int{0, 199, 51, 2, 1}), nil, []api.At{end})
	checkPlace(t, sheets(t, end), spills([5]int{0, 199, 51, 1, 2}), nil, []api.At{end})
	checkPlace(t, sheets(t, a1), spills([5]int{0, 0, 0, 200, 2}), spills([5]int{0, 0, 0, 200, 2}), nil)
	checkPlace(t, sheets(t, a1), spills([5]int{0, 0, 0, 201, 1}), nil, []api.At{a1})
	checkPlace(t, sheets(t, a1), spills([5]int{0, 0, 0, 7, 52}), spills([5]int{0, 0, 0, 7, 52}), nil)
	checkPlace(t, sheets(t, a1), spills([5]int{0, 0, 0, 1, 400}), nil, []api.At{a1})
	checkPlace(t, sheets(t, a1, at(0, 0, 2), at(0, 1, 1)), spills([5]int{0, 0, 0, 1, 3}, [5]int{0, 0, 2, 2, 1}, [5]int{0, 1, 1, 1, 2}), spills([5]int{0, 0, 2, 2, 1}), []api.At{a1, at(0, 1, 1)})
}

// P14.1: what is wrong, and what goes ahead.
func TestPlaceWrong(t *testing.T) {
	good := sheets(t, at(0, 0, 0), at(0, 2, 1), at(1, 0, 0))
	wrong := sheets(t)
	wrong.Sheets[1].Name = "s"
	one := [5]int{0, 2, 1, 1, 1}
	list := [][]api.Spill{spills([5]int{0, 0, 1, 1, 1}), spills([5]int{2, 0, 0, 1, 1}), spills([5]int{0, -1, 0, 1, 1}), spills(one, one), spills(one, [5]int{0, 0, 0, 1, 1}), spills([5]int{1, 0, 0, 1, 1}, one), spills([5]int{0, 0, 0, 1, 1}, [5]int{0, 1, 0, 1, 1})}
	for _, n := range [][2]int{{0, 1}, {1, 0}, {-1, 1}, {1, -1}, {-1, -1}, {21, 20}, {20, 21}, {401, 1}, {1, 401}, {math.MaxInt, 1}, {1, math.MaxInt}, {math.MaxInt, math.MaxInt}, {math.MinInt, math.MinInt}, {1 << 32, 1 << 32}, {math.MinInt, -1}} {
		list = append(list, spills([5]int{0, 2, 1, n[0], n[1]}), spills([5]int{0, 0, 0, 1, 1}, [5]int{0, 2, 1, n[0], n[1]}))
	}
	for _, l := range list {
		if p, q, err := spill.Place(good, l); len(p) > 0 || len(q) > 0 || err != api.ErrSpill {
			t.Errorf("Place of %v: %v, %v, error %d", l, p, q, err)
		}
		if p, q, err := spill.Place(wrong, l); len(p) > 0 || len(q) > 0 || err != api.ErrSheet {
			t.Errorf("Place in a wrong workbook: %v, %v, error %d", p, q, err)
		}
	}
	if p, q, err := spill.Place(good, spills([5]int{0, 2, 1, 20, 20})); len(p) != 1 || len(q) > 0 || err != api.OK {
		t.Errorf("Place of 400 values: %v, %v, error %d", p, q, err)
	}
}

// P14.2: the first spill that has a place, of whatever spills.
func TestCover(t *testing.T) {
	l := spills([5]int{0, 199, 0, 2, 1}, [5]int{0, 0, 0, 2, 2}, [5]int{0, 1, 1, 3, 3}, [5]int{0, 0, 0, 200, 52}, [5]int{9, 0, 0, 1, 1}, [5]int{0, -1, 0, 3, 3}, [5]int{1, 5, 5, math.MaxInt, 1}, [5]int{1, 5, 5, 0, 1})
	for _, c := range []struct {
		at   api.At
		want int
	}{{at(0, 0, 0), 1}, {at(0, 1, 1), 1}, {at(0, 2, 1), 2}, {at(0, 3, 3), 2}, {at(0, 4, 4), 3}, {at(0, 199, 0), 3}, {at(0, 199, 51), 3}, {at(1, 0, 0), -1}, {at(1, 5, 5), -1}, {at(9, 0, 0), -1}, {at(0, -1, 0), -1}, {at(0, 200, 0), -1}, {at(0, math.MaxInt, 0), -1}} {
		s, ok := spill.Cover(l, c.at)
		if c.want < 0 && (ok || s != api.Spill{}) || c.want >= 0 && (!ok || s != l[c.want]) {
			t.Errorf("Cover of %+v: %+v, %v", c.at, s, ok)
		}
	}
	if s, ok := spill.Cover(nil, api.At{}); ok || s != (api.Spill{}) {
		t.Errorf("Cover of none: %+v", s)
	}
}

func area(s api.Spill) api.Area {
	return api.Area{Sheet: s.At.Sheet, Row: s.At.Row, Col: s.At.Col, Rows: s.Rows, Cols: s.Cols}
}

// told is what P14.1 says, by areas that meet.
func told(cells []api.At, l []api.Spill) ([]api.Spill, []api.At) {
	var placed []api.Spill
	var blocked []api.At
	for _, s := range l {
		_, ok := ref.Meet(area(s), area(s))
		for _, at := range cells {
			ok = ok && (at == s.At || !ref.Has(area(s), at))
		}
		for _, p := range placed {
			_, meets := ref.Meet(area(s), area(p))
			ok = ok && !meets
		}
		if ok {
			placed = append(placed, s)
		} else {
			blocked = append(blocked, s.At)
		}
	}
	return placed, blocked
}

// P14.1, P14.3: spills of all sorts, held against what the chapter says, and what follows.
func TestWhatFollows(t *testing.T) {
	d := dice(6)
	for range 1500 {
		var cells []api.At
		for range d.below(9) {
			c := at(d.below(2), d.below(6), d.below(5))
			if d.below(4) == 0 {
				c.Row, c.Col = 195+d.below(5), 48+d.below(4)
			}
			cells = append(cells, c)
		}
		slices.SortFunc(cells, func(a, b api.At) int {
			return cmp.Or(a.Sheet-b.Sheet, a.Row-b.Row, a.Col-b.Col)
		})
		cells = slices.Compact(cells)
		var l []api.Spill
		for _, c := range cells {
			if d.below(4) > 0 {
				l = append(l, api.Spill{At: c, Rows: 1 + d.below(4), Cols: 1 + d.below(3)})
			}
		}
		b := sheets(t, cells...)
		placed, blocked := told(cells, l)
		checkPlace(t, b, l, placed, blocked)
		for row := range 10 {
			for col := range 8 {
				n := 0
				for _, s := range placed {
					if ref.Has(area(s), at(0, row, col)) {
						n++
					}
				}
				if _, ok := spill.Cover(placed, at(0, row, col)); n > 1 || ok != (n == 1) {
					t.Fatalf("%d spills have the place %d, %d", n, row, col)
				}
			}
		}
		if len(l) > 0 {
			p, q := told(cells, l[:len(l)-1])
			checkPlace(t, b, l[:len(l)-1], p, q)
			if len(p) > len(placed) || !slices.Equal(p, placed[:len(p)]) || !slices.Equal(q, blocked[:len(q)]) {
				t.Fatalf("the last spill of %v changes what stands ahead of it", l)
			}
		}
	}
}
