package val_test

import (
	"math"
	"slices"
	"testing"

	"tabula/api"
	"tabula/val"
)

// P3.1: which values are right.
func TestRight(t *testing.T) {
	for _, v := range flat(rights()) {
		if !val.Right(v) || !val.Right(spare(v)) {
			t.Errorf("Right(%+v) is false", v)
		}
	}
	for _, v := range wrongs() {
		if val.Right(v) || val.Right(spare(v)) {
			t.Errorf("Right(%+v) is true", v)
		}
	}
	for c := range 256 {
		s := string([]byte{'a', byte(c)})
		if want := c >= 32 && c < 127; val.Right(text(s)) != want {
			t.Errorf("Right of the text %q is %v", s, !want)
		}
	}
	for rows := range 25 {
		for cols := range 25 {
			want := rows > 0 && cols > 0 && rows*cols <= 400
			if val.Right(array(rows, cols, many(rows*cols, num(1, 0))...)) != want {
				t.Errorf("Right of an array of %d by %d is %v", rows, cols, !want)
			}
		}
	}
}

// P3.1: Same goes through all fields, and all lists.
func TestSame(t *testing.T) {
	right := flat(rights())
	all := append(right[:len(right):len(right)], wrongs()...)
	for i, v := range all {
		if !val.Same(v, spare(v)) || !val.Same(spare(v), v) {
			t.Errorf("%+v is not the same as itself", v)
		}
		for _, x := range changed(v) {
			if val.Same(v, x) || val.Same(x, v) {
				t.Errorf("Same(%+v, %+v) is true", v, x)
			}
		}
		for _, x := range right[:min(i, len(right))] {
			if i < len(right) && (val.Same(v, x) || val.Same(x, v)) {
				t.Errorf("Same(%+v, %+v) is true", v, x)
			}
		}
	}
	v := function(0, 2, "s", num(1, 0), array(1, 2, num(1, 0), text("x")))
	for i, do := range []func(x *api.Val){
		func(x *api.Val) { x.L[0].N.M = 2 },
		func(x *api.Val) { x.L[1].L[1].S = "X" },
		func(x *api.Val) { x.L = x.L[:1] },
		func(x *api.Val) { x.L[0], x.L[1] = x.L[1], x.L[0] },
		func(x *api.Val) { x.Code.Params[1] = "a" },
		func(x *api.Val) { x.Code.Params = x.Code.Params[:1] },
		func(x *api.Val) { x.Code.Blocks = x.Code.Blocks[:1] },
		func(x *api.Val) { x.Code.Blocks[1] = x.Code.Blocks[1][:1] },
		func(x *api.Val) { x.Code.Blocks[1][1].Op++ },
		func(x *api.Val) { x.Code.Blocks[1][1].A++ },
		func(x *api.Val) { x.Code.Blocks[1][1].B++ },
		func(x *api.Val) { x.Code.Blocks[1][1].S = "y" },
		func(x *api.Val) { x.Code.Blocks[1][1].N.M++ },
		func(x *api.Val) { x.Code.Blocks[1][1].N.E++ },
		func(x *api.Val) { x.Code.Blocks[1][1].Ref.Row++ },
		func(x *api.Val) { x.Code.Blocks[1][1].Ref.Sheet = "S" },
		func(x *api.Val) { x.Code.Blocks[1][1].To.FixCol = true },
		func(x *api.Val) { x.Code.Blocks[0][1].To.Bad = true },
	} {
		x := spare(v)
		do(&x)
		if val.Same(v, x) || val.Same(x, v) {
			t.Errorf("Same finds no difference in change %d", i)
		}
	}
}

// P3.2, P3.7: values stand in one order.
func TestCompare(t *testing.T) {
	rows := rights()
	for i, row := range rows {
		for k, other := range rows {
			want := 0
			if i < k {
				want = -1
			} else if i > k {
				want = 1
			}
			for _, a := range row {
				for _, b := range other {
					if got := val.Compare(a, b); got != want {
						t.Errorf("Compare(%+v, %+v): %d; want %d", a, b, got, want)
					}
				}
			}
		}
	}
	for _, c := range []struct {
		a, b api.Val
		want int
	}{
		{text("b"), text("A"), 1}, {num(9, 0), text(""), -1}, {text("a"), text("_"), 1}, {text("A"), text("_"), 1}, {text("Z"), text("["), 1}, {text("abc"), text("ABD"), -1}, {text("ab"), text("ABC"), -1}, {text("K"), text("\u212a"), -1}, {text("é"), text("É"), 1},
		{array(2, 1, num(9, 0), num(9, 0)), array(1, 3, num(1, 0), num(1, 0), num(1, 0)), 1}, {array(2, 2, num(1, 0), num(2, 0), num(9, 0), num(0, 0)), array(2, 2, num(1, 0), num(3, 0), num(0, 0), num(0, 0)), -1},
	} {
		if val.Compare(c.a, c.b) != c.want || val.Compare(c.b, c.a) != -c.want {
			t.Errorf("Compare(%+v, %+v) is not %d", c.a, c.b, c.want)
		}
	}
	for _, w := range wrongs() {
		for _, v := range append(flat(rights()), w) {
			if val.Compare(w, v) != 0 || val.Compare(v, w) != 0 {
				t.Errorf("Compare of %+v and %+v is not 0", w, v)
			}
		}
	}
}

// P3.6: Make.
func TestMake(t *testing.T) {
	for _, v := range flat(rights()) {
		if v.Kind == api.Array {
			if got, err := val.Make(v.Rows, v.Cols, v.L); !val.Same(got, v) || err != api.OK {
				t.Errorf("Make of %+v: %+v, error %d", v, got, err)
			}
			fresh(t, "Make", v, func(v api.Val) api.Val {
				got, _ := val.Make(v.Rows, v.Cols, v.L)
				return got
			})
		}
		if v.Kind != api.Array && v.Kind != api.Func {
			if got, err := val.Make(1, 2, []api.Val{v, v}); !val.Same(got, array(1, 2, v, v)) || err != api.OK {
				t.Errorf("Make of %+v: %+v, error %d", v, got, err)
			}
			continue
		}
		refuseMake(t, 1, 1, []api.Val{v})
	}
	for _, w := range wrongs() {
		refuseMake(t, 1, 1, []api.Val{w})
		refuseMake(t, 1, 2, []api.Val{num(1, 0), w})
		if w.Kind == api.Array && w.N == (api.Dec{}) && w.S == "" && !w.B && w.Err == 0 && w.Fn == 0 && len(w.Code.Blocks)+len(w.Code.Params) == 0 {
			refuseMake(t, w.Rows, w.Cols, w.L)
		}
	}
	refuseMake(t, 0, 0, nil)
	refuseMake(t, math.MaxInt, math.MaxInt, nil)
	refuseMake(t, math.MinInt, math.MinInt, many(1, num(1, 0)))
}

func refuseMake(t *testing.T, rows int, cols int, l []api.Val) {
	t.Helper()
	if got, err := val.Make(rows, cols, l); !val.Same(got, api.Val{}) || err != api.ErrVal {
		t.Errorf("Make(%d, %d, %+v): %+v, error %d; want ErrVal", rows, cols, l, got, err)
	}
}

// P3.6: Get.
func TestGet(t *testing.T) {
	ends := []int{0, 1, 2, 3, 19, 20, 399, 400, math.MaxInt, -1, -2, math.MinInt}
	for _, v := range flat(rights()) {
		for _, row := range ends {
			for _, col := range ends {
				want := v
				switch {
				case row < 0 || col < 0:
					want = fault(7)
				case v.Kind == api.Array && (v.Rows > 1 && row >= v.Rows || v.Cols > 1 && col >= v.Cols):
					want = fault(7)
				case v.Kind == api.Array:
					i := 0
					if v.Rows > 1 {
						i = row * v.Cols
					}
					if v.Cols > 1 {
						i += col
					}
					want = v.L[i]
				}
				if got := val.Get(v, row, col); !val.Same(got, want) {
					t.Errorf("Get(%+v, %d, %d): %+v; want %+v", v, row, col, got, want)
				}
			}
		}
		fresh(t, "Get", v, func(v api.Val) api.Val { return val.Get(v, 0, 0) })
	}
	for _, w := range wrongs() {
		for _, i := range ends {
			if got := val.Get(w, i, i); !val.Same(got, fault(3)) {
				t.Errorf("Get(%+v, %d, %d): %+v; want VValue", w, i, i, got)
			}
		}
	}
	v := array(2, 3, num(1, 0), num(2, 0), num(3, 0), num(4, 0), num(5, 0), num(6, 0))
	var got []int
	for row := range 2 {
		for col := range 3 {
			got = append(got, val.Get(v, row, col).N.M)
		}
	}
	if !slices.Equal(got, []int{1, 2, 3, 4, 5, 6}) {
		t.Errorf("Get goes through an array as %v", got)
	}
}
