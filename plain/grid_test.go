package plain_test

import (
	"testing"

	"tabula/api"
	"tabula/plain"
	"tabula/val"
)

func num(n int) api.Val {
	return api.Val{Kind: api.Num, N: api.Dec{M: n}}
}

func fault(n int) api.Val {
	return api.Val{Kind: api.Fault, Err: n}
}

func array(rows int, cols int, l ...api.Val) api.Val {
	return api.Val{Kind: api.Array, Rows: rows, Cols: cols, L: l}
}

func many(n int) []api.Val {
	var list []api.Val
	for range n {
		list = append(list, num(1))
	}
	return list
}

// Each does what is done with plain values with each row and column.
func TestEach(t *testing.T) {
	add := func(l []api.Val) api.Val {
		total := num(0)
		for _, v := range l {
			if v.Kind == api.Fault {
				return v
			}
			total.N.M += v.N.M
		}
		return total
	}
	function := api.Val{Kind: api.Func, Code: api.Code{Blocks: [][]api.Ins{nil}, Params: []string{""}}}
	for i, c := range []struct {
		l    []api.Val
		want api.Val
	}{
		{nil, num(0)},
		{[]api.Val{num(1), num(2)}, num(3)},
		{[]api.Val{array(1, 1, num(1)), num(2)}, array(1, 1, num(3))},
		{[]api.Val{array(1, 2, num(1), num(2)), array(2, 1, num(10), num(20))}, array(2, 2, num(11), num(12), num(21), num(22))},
		{[]api.Val{array(1, 2, num(1), num(2)), array(1, 3, num(1), num(2), num(3))}, array(1, 3, num(2), num(4), fault(api.VNA))},
		{[]api.Val{array(2, 2, num(1), num(2), num(3), num(4)), array(3, 1, num(0), num(0), num(0))}, array(3, 2, num(1), num(2), num(3), num(4), fault(api.VNA), fault(api.VNA))},
		{[]api.Val{array(1, 400, many(400)...), array(2, 1, num(1), num(2))}, fault(api.VNum)},
		{[]api.Val{array(1, 20, many(20)...), array(21, 1, many(21)...)}, fault(api.VNum)},
	} {
		if got := plain.Each(c.l, add); !val.Same(got, c.want) {
			t.Errorf("Each %d: %+v; want %+v", i, got, c.want)
		}
	}
	first := func(l []api.Val) api.Val { return l[0] }
	if got := plain.Each([]api.Val{function, array(1, 2, num(1), num(2))}, first); !val.Same(got, array(1, 2, fault(api.VValue), fault(api.VValue))) {
		t.Errorf("Each of a function: %+v", got)
	}
	if got := plain.Each([]api.Val{function}, first); !val.Same(got, function) {
		t.Errorf("Each of a function alone: %+v", got)
	}
	if got := plain.Each([]api.Val{array(1, 20, many(20)...), array(20, 1, many(20)...)}, add); got.Rows != 20 || got.Cols != 20 || !val.Right(got) {
		t.Errorf("Each of as much as there may be: %+v", got)
	}
	nested := func(l []api.Val) api.Val { return array(1, 1, num(1)) }
	if got := plain.Each([]api.Val{array(1, 1, num(1))}, nested); !val.Same(got, array(1, 1, fault(api.VValue))) {
		t.Errorf("Each that tells arrays: %+v", got)
	}
}

// Fresh shares no list with what it is handed, be it an empty one with room.
func TestFresh(t *testing.T) {
	for i, make := range []func() api.Val{
		func() api.Val { return num(1) },
		func() api.Val { return api.Val{L: append([]api.Val{num(1)}[:0:1], many(0)...)} },
		func() api.Val { return array(1, 2, num(1), num(2)) },
		func() api.Val {
			return api.Val{Kind: api.Func, S: "x", L: []api.Val{array(1, 1, num(1))}, Code: api.Code{Blocks: [][]api.Ins{{{Op: 1}}}, Params: []string{""}}}
		},
	} {
		v := make()
		got := plain.Fresh(v)
		if !val.Same(got, v) || cap(got.L) > 0 && cap(v.L) > 0 && &got.L[:1][0] == &v.L[:1][0] {
			t.Errorf("Fresh %d: %+v", i, got)
		}
		if v.Kind == api.Func {
			v.L[0].L[0], v.Code.Blocks[0][0], v.Code.Params[0] = num(9), api.Ins{}, "x"
			if !val.Same(got, make()) {
				t.Errorf("Fresh %d shares memory", i)
			}
		}
	}
}
