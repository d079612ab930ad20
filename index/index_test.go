package index_test

import (
	"math"
	"slices"
	"testing"

	"tabula/api"
	"tabula/index"
	"tabula/ref"
)

// dice are numbers that look like chance, and are the same in each run.
type dice uint64

func (d *dice) below(n int) int {
	*d = *d*6364136223846793005 + 1442695040888963407
	return int(uint64(*d)>>33) % n
}

// area is a right one, often at a sheet's end, and sometimes a whole sheet.
func (d *dice) area() api.Area {
	a := api.Area{Sheet: d.below(8), Row: d.below(10), Col: d.below(6), Rows: 1 + d.below(5), Cols: 1 + d.below(4)}
	switch d.below(6) {
	case 0:
		a.Row, a.Col = 200-a.Rows, 52-a.Cols
	case 1:
		a.Row, a.Col = 199, 51
		a.Rows, a.Cols = 1, 1
	case 2:
		a.Row, a.Col, a.Rows, a.Cols = 0, 0, 200, 52
	}
	return a
}

func wrongAreas() []api.Area {
	list := []api.Area{{}, {Rows: 1}, {Cols: 1}, {Rows: 201, Cols: 1}, {Rows: 1, Cols: 53}, {Row: 199, Rows: 2, Cols: 1}, {Col: 51, Rows: 1, Cols: 2}, {Sheet: 8, Rows: 1, Cols: 1}, {Row: -1, Rows: 2, Cols: 1}}
	for _, n := range []int{-1, math.MinInt, math.MaxInt} {
		list = append(list, api.Area{Sheet: n, Rows: 1, Cols: 1}, api.Area{Row: n, Rows: 1, Cols: 1}, api.Area{Col: n, Rows: 1, Cols: 1}, api.Area{Rows: n, Cols: 1}, api.Area{Rows: 1, Cols: n})
	}
	return list
}

// kept is what an index has to have, gone through one by one.
type kept map[int]api.Area

func (k kept) some(is func(api.Area) bool) []int {
	var list []int
	for id, a := range k {
		if is(a) {
			list = append(list, id)
		}
	}
	slices.Sort(list)
	return list
}

func check(t *testing.T, x *index.Index, k kept, at api.At, a api.Area) {
	t.Helper()
	hits := k.some(func(b api.Area) bool { return ref.Has(b, at) })
	if got := x.Hits(at); !slices.Equal(got, hits) {
		t.Fatalf("Hits(%+v): %v; want %v of %v", at, got, hits, k)
	}
	meets := k.some(func(b api.Area) bool { _, ok := ref.Meet(a, b); return ok })
	if got := x.Meets(a); !slices.Equal(got, meets) {
		t.Fatalf("Meets(%+v): %v; want %v of %v", a, got, meets, k)
	}
	if x.Len() != len(k) {
		t.Fatalf("Len: %d; want %d", x.Len(), len(k))
	}
}

// P11.1, P11.2: what is put in, dropped and asked for, held against a list.
func TestIndex(t *testing.T) {
	d, x, k := dice(1), index.New(), kept{}
	ids := []int{0, 1, 2, 3, 62, 63, 64, 65, 127, 128, 5000, 9983, 9984, 9998, 9999}
	for range 30000 {
		id := ids[d.below(len(ids))]
		_, known := k[id]
		if d.below(2) == 0 {
			a, want := d.area(), api.OK
			if known {
				want = api.ErrIndex
			} else {
				k[id] = a
			}
			if err := x.Put(id, a); err != want {
				t.Fatalf("Put(%d, %+v): error %d; want %d", id, a, err, want)
			}
		} else {
			if x.Drop(id) != known {
				t.Fatalf("Drop(%d): %v", id, !known)
			}
			delete(k, id)
		}
		a := d.area()
		at := api.At{Sheet: d.below(8), Row: d.below(14), Col: d.below(9)}
		if d.below(3) == 0 {
			at.Row, at.Col = 195+d.below(6), 48+d.below(5)
		}
		check(t, x, k, at, a)
	}
}

// P11.1: numbers and areas that an index does not take change nothing, and are told in their order.
func TestWrong(t *testing.T) {
	one := api.Area{Row: 3, Col: 3, Rows: 2, Cols: 2}
	x, k := index.New(), kept{7: one}
	if err := x.Put(7, one); err != api.OK {
		t.Fatalf("Put: error %d", err)
	}
	for _, id := range []int{-1, 10000, 10001, math.MinInt, math.MaxInt} {
		if err := x.Put(id, one); err != api.ErrArg {
			t.Errorf("Put(%d): error %d", id, err)
		}
		if x.Drop(id) {
			t.Errorf("Drop(%d) is true", id)
		}
	}
	for _, a := range wrongAreas() {
		for _, id := range []int{7, 8} {
			if err := x.Put(id, a); err != api.ErrArg {
				t.Errorf("Put(%d, %+v): error %d", id, a, err)
			}
		}
		if l := x.Meets(a); len(l) > 0 {
			t.Errorf("Meets(%+v): %v", a, l)
		}
		if l := x.Hits(api.At{Sheet: a.Sheet, Row: a.Row, Col: a.Col}); len(l) > 0 {
			t.Errorf("Hits of the first place of %+v: %v", a, l)
		}
	}
	if err := x.Put(7, api.Area{Rows: 1, Cols: 1}); err != api.ErrIndex {
		t.Errorf("Put again: error %d", err)
	}
	check(t, x, k, api.At{Row: 3, Col: 3}, api.Area{Rows: 200, Cols: 52})
	check(t, x, k, api.At{}, api.Area{Rows: 1, Cols: 1})
	if !x.Drop(7) || x.Drop(7) || x.Len() != 0 || x.Put(7, one) != api.OK {
		t.Error("a number is dropped twice, or can't be put in again")
	}
}

// P11.2: none tells ErrNil, or nothing; an empty one nothing.
func TestNone(t *testing.T) {
	var none *index.Index
	one := api.Area{Rows: 1, Cols: 1}
	if none.Put(0, one) != api.ErrNil || none.Put(-1, api.Area{}) != api.ErrNil || none.Drop(0) || len(none.Hits(api.At{})) > 0 || len(none.Meets(one)) > 0 || len(none.Meets(api.Area{})) > 0 || none.Len() != 0 {
		t.Error("an index that is none tells something")
	}
	x := index.New()
	if x.Drop(0) || len(x.Hits(api.At{})) > 0 || len(x.Meets(one)) > 0 || x.Len() != 0 {
		t.Error("an index without numbers tells something")
	}
}

// R3: what is told is told anew each time.
func TestNewMemory(t *testing.T) {
	x := index.New()
	x.Put(2, api.Area{Rows: 1, Cols: 1})
	x.Put(5, api.Area{Rows: 2, Cols: 1})
	for _, tell := range []func() []int{func() []int { return x.Hits(api.At{}) }, func() []int { return x.Meets(api.Area{Rows: 9, Cols: 9}) }} {
		l := tell()
		l[0], l[1] = 8, 8
		_ = append(l[:1], 9)
		if again := tell(); !slices.Equal(again, []int{2, 5}) {
			t.Errorf("told again: %v", again)
		}
	}
}

// P11.3: the order of putting in makes no difference; a place is the area of it alone; the chapter's example.
func TestWhatFollows(t *testing.T) {
	d := dice(9)
	for range 300 {
		var areas []api.Area
		for range 1 + d.below(12) {
			areas = append(areas, d.area())
		}
		x, y := index.New(), index.New()
		for i := range areas {
			j := len(areas) - 1 - i
			x.Put(i*700, areas[i])
			y.Put(j*700, areas[j])
		}
		for range 20 {
			at, a := api.At{Sheet: d.below(8), Row: d.below(12), Col: d.below(8)}, d.area()
			single := api.Area{Sheet: at.Sheet, Row: at.Row, Col: at.Col, Rows: 1, Cols: 1}
			if !slices.Equal(x.Hits(at), y.Hits(at)) || !slices.Equal(x.Meets(a), y.Meets(a)) || !slices.Equal(x.Hits(at), x.Meets(single)) {
				t.Fatalf("of %v: Hits(%+v) %v and %v, Meets(%+v) %v and %v", areas, at, x.Hits(at), y.Hits(at), a, x.Meets(a), y.Meets(a))
			}
		}
	}
	x := index.New()
	x.Put(3, api.Area{Rows: 2, Cols: 2})
	x.Put(1, api.Area{Row: 1, Col: 1, Rows: 2, Cols: 2})
	if !slices.Equal(x.Hits(api.At{Row: 1, Col: 1}), []int{1, 3}) || !slices.Equal(x.Hits(api.At{}), []int{3}) || !slices.Equal(x.Meets(api.Area{Col: 2, Rows: 9, Cols: 1}), []int{1}) {
		t.Error("the chapter's example")
	}
}

// P11.1: as many numbers as there may be.
func TestAll(t *testing.T) {
	x, whole := index.New(), api.Area{Sheet: 7, Rows: 200, Cols: 52}
	for id := range 10000 {
		if err := x.Put(9999-id, whole); err != api.OK {
			t.Fatalf("Put(%d): error %d", 9999-id, err)
		}
	}
	l := x.Meets(whole)
	if len(l) != 10000 || !slices.IsSorted(l) || x.Len() != 10000 || len(x.Hits(api.At{Sheet: 7, Row: 199, Col: 51})) != 10000 {
		t.Errorf("Meets tells %d, Len is %d", len(l), x.Len())
	}
	for id := range 10000 {
		if !x.Drop(id) {
			t.Fatalf("Drop(%d) is false", id)
		}
	}
	if x.Len() != 0 || len(x.Meets(whole)) > 0 {
		t.Error("dropped numbers are there")
	}
}
