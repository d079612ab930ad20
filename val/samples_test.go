package val_test

import (
	"math"
	"strings"
	"testing"

	"tabula/api"
	"tabula/val"
)

var names = []string{"", "#NULL!", "#DIV/0!", "#VALUE!", "#REF!", "#NAME?", "#NUM!", "#N/A", "#SPILL!", "#CIRC!"}

func num(m int, e int) api.Val { return api.Val{Kind: api.Num, N: api.Dec{M: m, E: e}} }
func text(s string) api.Val    { return api.Val{Kind: api.Text, S: s} }
func truth(b bool) api.Val     { return api.Val{Kind: api.Truth, B: b} }
func fault(n int) api.Val      { return api.Val{Kind: api.Fault, Err: n} }

func array(rows int, cols int, l ...api.Val) api.Val {
	return api.Val{Kind: api.Array, Rows: rows, Cols: cols, L: l}
}

func function(fn int, blocks int, s string, l ...api.Val) api.Val {
	v := api.Val{Kind: api.Func, S: s, L: l, Fn: fn}
	for i := range blocks {
		v.Code.Blocks = append(v.Code.Blocks, []api.Ins{{Op: i, S: "x"}, {Op: -1, Ref: api.Ref{Row: -5}}})
		v.Code.Params = append(v.Code.Params, "a,b")
	}
	return v
}

func many(n int, v api.Val) []api.Val {
	var list []api.Val
	for range n {
		list = append(list, v)
	}
	return list
}

// plains are plain values, in their order; those of one row stand beside each other.
func plains() [][]api.Val {
	most := strings.Repeat("z", 200)
	return [][]api.Val{
		{{}},
		{num(-api.MaxDigit, 9)}, {num(-12, 0)}, {num(-1, -9)}, {{Kind: api.Num}}, {num(1, -9)}, {num(5, -1)}, {num(1, 0)}, {num(9, 0)}, {num(1, 1)}, {num(10, 9)}, {num(api.MaxDigit, 9)},
		{text("")}, {text(" ")}, {text("#N/A"), text("#n/a")}, {text("'")}, {text("''")}, {text("'12")}, {text("-1")}, {text("1")}, {text("1.50")}, {text("10")}, {text("9")}, {text("=1")}, {text("@")}, {text("[")}, {text("_")}, {text("`")},
		{text("a"), text("A")}, {text("A "), text("a ")}, {text("aB"), text("Ab"), text("AB"), text("ab")}, {text("abc")}, {text("b"), text("B")}, {text("false"), text("FALSE"), text("FaLsE")}, {text("q\"q")}, {text("TRUE"), text("tRuE")}, {text(most), text(strings.ToUpper(most))}, {text("{")}, {text("É")}, {text("é")}, {text("ſ")}, {text("日本")}, {text("\U0010ffff")},
		{truth(false)}, {truth(true)},
		{fault(1)}, {fault(2)}, {fault(3)}, {fault(4)}, {fault(5)}, {fault(6)}, {fault(7)}, {fault(8)}, {fault(9)},
	}
}

// rights are right values, in their order; those of one row stand beside each other.
func rights() [][]api.Val {
	held := many(40, array(1, 1, fault(9)))
	deep := function(0, 1, "")
	for range 50 {
		deep = function(0, 1, "f;g", deep)
	}
	bare := api.Val{Kind: api.Func, Code: api.Code{Blocks: [][]api.Ins{nil}, Params: []string{""}}}
	return append(plains(),
		[]api.Val{array(1, 1, api.Val{})}, []api.Val{array(1, 1, num(2, 0))}, []api.Val{array(1, 1, text("A")), array(1, 1, text("a"))}, []api.Val{array(1, 1, fault(9))},
		[]api.Val{array(1, 2, num(1, 0), num(1, 0))}, []api.Val{array(1, 2, num(1, 0), num(2, 0))}, []api.Val{array(1, 2, num(2, 0), num(1, 0))}, []api.Val{array(1, 2, text("a"), text("b")), array(1, 2, text("A"), text("B"))}, []api.Val{array(1, 3, num(0, 0), num(0, 0), num(0, 0))}, []api.Val{array(1, 400, many(400, num(1, 0))...)},
		[]api.Val{array(2, 1, api.Val{}, api.Val{})}, []api.Val{array(2, 1, api.Val{}, num(-1, 0))}, []api.Val{array(2, 2, num(1, 0), text("a"), truth(true), fault(7))}, []api.Val{array(20, 20, many(400, text("x"))...)}, []api.Val{array(400, 1, many(400, fault(3))...)},
		[]api.Val{function(0, 1, ""), function(1, 2, "x,y;f", num(1, 0), function(0, 1, "\x00\xff")), function(19, 20, strings.Repeat("n", 5000), held...), deep, bare},
	)
}

func flat(rows [][]api.Val) []api.Val {
	var list []api.Val
	for _, row := range rows {
		list = append(list, row...)
	}
	return list
}

// changed are copies of v with one field more, or another one.
func changed(v api.Val) []api.Val {
	var list []api.Val
	change := func(do func(x *api.Val)) {
		x := v
		do(&x)
		list = append(list, x)
	}
	change(func(x *api.Val) { x.Kind += 7 })
	change(func(x *api.Val) { x.N.M++ })
	change(func(x *api.Val) { x.N.E++ })
	change(func(x *api.Val) { x.S += "x" })
	change(func(x *api.Val) { x.B = !x.B })
	change(func(x *api.Val) { x.Err++ })
	change(func(x *api.Val) { x.Rows++ })
	change(func(x *api.Val) { x.Cols++ })
	change(func(x *api.Val) { x.L = append([]api.Val{{}}, x.L...) })
	change(func(x *api.Val) { x.Fn++ })
	change(func(x *api.Val) { x.Code.Blocks = append([][]api.Ins{nil}, x.Code.Blocks...) })
	change(func(x *api.Val) { x.Code.Params = append([]string{""}, x.Code.Params...) })
	return list
}

// wrongs are values that are not right.
func wrongs() []api.Val {
	list := []api.Val{
		num(10, 0), num(0, 1), num(api.MaxDigit+1, 0), num(math.MinInt, 0), num(1, 10), num(1, -10),
		text(strings.Repeat("z", 201)), text(strings.Repeat("é", 100) + "x"), text("a\x00"), text("\x1f"), text("a\nb"), text("\x7f"), text("\xff"), text("a\xc3"), text("\xed\xa0\x80"), text("\xc0\xaf"),
		fault(0), fault(10), fault(-1), fault(math.MaxInt),
		array(0, 0), array(1, 0), array(0, 1), array(1, 1), array(1, 1, api.Val{}, api.Val{}), array(2, 2, many(3, num(1, 0))...), array(-1, -1, api.Val{}), array(-2, -2, many(4, num(1, 0))...), array(1, 401, many(401, num(1, 0))...), array(401, 1, many(401, num(1, 0))...), array(21, 20, many(420, num(1, 0))...), array(1<<32, 1<<32), array(math.MaxInt, math.MaxInt, api.Val{}), array(math.MinInt, 2), array(1<<62, 4), array(1, 1, array(1, 1, num(1, 0))), array(1, 1, function(0, 1, "")), array(1, 2, num(1, 0), num(10, 0)), array(1, 1, api.Val{Kind: 9}),
		function(0, 0, ""), function(1, 1, ""), function(-1, 1, ""), function(math.MaxInt, 1, ""), function(0, 21, ""), function(0, 1, "", many(41, num(1, 0))...), function(0, 1, "", num(10, 0)), function(0, 1, "", function(0, 0, "")), function(0, 1, "", function(0, 1, "", fault(0))),
		{Kind: -1}, {Kind: 7}, {Kind: math.MaxInt}, {Kind: math.MinInt},
		{Kind: api.Func}, {Kind: api.Func, Code: api.Code{Params: []string{""}}}, {Kind: api.Func, Code: api.Code{Blocks: [][]api.Ins{nil}}}, {Kind: api.Func, Code: api.Code{Blocks: [][]api.Ins{nil}, Params: []string{"", ""}}}, {Kind: api.Func, Code: api.Code{Blocks: [][]api.Ins{nil, nil}, Params: []string{""}}},
	}
	// What else is named for none of the kinds of these, or would have to be more.
	for _, v := range []api.Val{{}, num(1, 0), text("x"), truth(true), fault(1), array(1, 1, num(1, 0)), function(0, 1, "x", num(1, 0))} {
		for _, x := range changed(v) {
			named := v.Kind == api.Num && x.N != v.N || (v.Kind == api.Text || v.Kind == api.Func) && x.S != v.S || v.Kind == api.Truth && x.B != v.B || v.Kind == api.Fault && x.Err != v.Err || v.Kind == api.Func && len(x.L) != len(v.L)
			if !named {
				list = append(list, x)
			}
		}
	}
	return list
}

// spare is v with lists that have room, which whoever is handed v must leave alone.
func spare(v api.Val) api.Val {
	l := make([]api.Val, 0, len(v.L)+3)
	for _, x := range v.L {
		l = append(l, spare(x))
	}
	v.L = l
	blocks := make([][]api.Ins, 0, len(v.Code.Blocks)+3)
	for _, b := range v.Code.Blocks {
		blocks = append(blocks, append(make([]api.Ins, 0, len(b)+3), b...))
	}
	v.Code.Blocks = blocks
	v.Code.Params = append(make([]string, 0, len(v.Code.Params)+3), v.Code.Params...)
	return v
}

// scratch writes into all that a value's lists can reach.
func scratch(v api.Val) {
	for i := range v.L {
		scratch(v.L[i])
	}
	for _, b := range v.Code.Blocks {
		b = b[:cap(b)]
		for i := range b {
			b[i] = api.Ins{Op: 99, S: "scratched"}
		}
	}
	l, blocks, params := v.L[:cap(v.L)], v.Code.Blocks[:cap(v.Code.Blocks)], v.Code.Params[:cap(v.Code.Params)]
	for i := range l {
		l[i] = text("scratched")
	}
	for i := range blocks {
		blocks[i] = []api.Ins{{Op: 99}}
	}
	for i := range params {
		params[i] = "scratched"
	}
}

// fresh holds that an answer is new memory: what was handed in may be written into.
func fresh(t *testing.T, call string, v api.Val, do func(v api.Val) api.Val) {
	t.Helper()
	in := spare(v)
	before := spare(in)
	got := do(in)
	want := spare(got)
	if !val.Same(in, before) {
		t.Errorf("%s of %+v has changed it: %+v", call, before, in)
	}
	scratch(in)
	if !val.Same(got, want) {
		t.Errorf("%s of %+v shares memory with it", call, before)
	}
	again := do(v)
	scratch(got)
	if !val.Same(again, want) {
		t.Errorf("%s of %+v shares memory with another answer", call, v)
	}
}
