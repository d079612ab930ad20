package code_test

import (
	"math"
	"slices"
	"strings"
	"testing"

	"tabula/api"
	"tabula/code"
)

// one is a code of one block.
func one(l ...api.Ins) api.Code {
	return api.Code{Blocks: [][]api.Ins{l}, Params: []string{""}}
}

var (
	lay    = api.Ins{Op: api.InEmpty}
	add    = api.Ins{Op: api.InOp, S: "+"}
	drop   = api.Ins{Op: api.InKeep, S: "x"}
	forget = api.Ins{Op: api.InForget, A: 1}
)

func ins(op int, a int, b int, s string) api.Ins { return api.Ins{Op: op, A: a, B: b, S: s} }

// within is an instruction in a block that has what it needs.
func within(x api.Ins) api.Code {
	takes := map[int]int{api.InOp: 2, api.InAhead: 1, api.InBack: 1, api.InCall: x.A, api.InArray: x.A * x.B, api.InUnless: 1, api.InApply: x.A + 1, api.InKeep: 1}[x.Op]
	var l []api.Ins
	if x.Op == api.InForget {
		for range min(max(x.A, 0), 190) {
			l = append(l, lay, drop)
		}
	}
	for range min(max(takes, 0), 390) {
		l = append(l, lay)
	}
	l = append(l, x)
	switch x.Op {
	case api.InUnless:
		l = append(l, lay)
	case api.InGo:
		l = append([]api.Ins{lay}, l...)
	case api.InKeep:
		l = append(l, forget, lay)
	case api.InForget:
		l = append(l, lay)
	}
	c := one(l...)
	if x.Op == api.InFunc {
		c.Blocks = append(c.Blocks, []api.Ins{lay})
		c.Params = append(c.Params, "")
	}
	return c
}

// P6.1: instructions and their fields.
func TestRightIns(t *testing.T) {
	most, long := strings.Repeat("n", 30), strings.Repeat("n", 31)
	bad := api.Ref{Bad: true}
	rights := []api.Ins{
		{Op: api.InNum}, {Op: api.InNum, N: api.Dec{M: -15, E: -1}}, ins(api.InText, 0, 0, ""), ins(api.InText, 0, 0, "é, ;"), ins(api.InText, 0, 0, strings.Repeat("x", 200)), {Op: api.InTruth}, ins(api.InTruth, 1, 0, ""), ins(api.InFault, 1, 0, ""), ins(api.InFault, 4, 0, ""), ins(api.InFault, 9, 0, ""),
		{Op: api.InRef}, {Op: api.InRef, Ref: bad}, {Op: api.InRef, Ref: api.Ref{Sheet: "It's", Row: 199, Col: 51, FixRow: true, FixCol: true}}, {Op: api.InRange}, {Op: api.InRange, Ref: bad, To: bad}, {Op: api.InRange, Ref: api.Ref{Row: 5}, To: api.Ref{Sheet: "S"}}, lay,
		ins(api.InAhead, 0, 0, "+"), ins(api.InAhead, 0, 0, "-"), ins(api.InBack, 0, 0, "%"), ins(api.InCall, 0, 0, "SUM"), ins(api.InCall, 390, 0, "x"), ins(api.InCall, 1, 0, most), ins(api.InCall, 1, 0, "\xff\x7f!\"(["), ins(api.InArray, 1, 1, ""), ins(api.InArray, 19, 20, ""), ins(api.InArray, 1, 390, ""), ins(api.InArray, 390, 1, ""),
		ins(api.InUnless, 0, 1, ""), ins(api.InGo, 0, 0, ""), ins(api.InFunc, 1, 0, ""), ins(api.InFunc, 1, 0, "x"), ins(api.InFunc, 1, 0, "x,x,y"), ins(api.InFunc, 1, 0, ";f"), ins(api.InFunc, 1, 0, "x,y;f"), ins(api.InFunc, 1, 0, strings.Repeat("x,", 39)+"x;f"), ins(api.InFunc, 1, 0, most+";"+most), ins(api.InApply, 0, 0, ""), ins(api.InApply, 389, 0, ""),
		ins(api.InKeep, 0, 0, "x"), ins(api.InKeep, 0, 0, most), ins(api.InGet, 0, 0, "\xff"), ins(api.InGet, 0, 0, most), ins(api.InForget, 0, 0, ""), ins(api.InForget, 190, 0, ""),
	}
	for _, s := range strings.Fields("= <> < <= > >= & + - * / ^") {
		rights = append(rights, ins(api.InOp, 0, 0, s))
	}
	for _, x := range rights {
		if !code.Right(within(x)) {
			t.Errorf("Right is false with %+v", x)
		}
		for i, do := range []func(x *api.Ins){
			func(x *api.Ins) { x.A += 1000 }, func(x *api.Ins) { x.A -= 1000 }, func(x *api.Ins) { x.B += 1000 }, func(x *api.Ins) { x.B -= 1000 }, func(x *api.Ins) { x.S += "\x00" }, func(x *api.Ins) { x.N.M -= 2 * api.MaxDigit }, func(x *api.Ins) { x.N.E += 30 },
			func(x *api.Ins) { x.Ref.Row += 300 }, func(x *api.Ins) { x.To.Row += 300 }, func(x *api.Ins) { x.Ref.Sheet += "\x00" }, func(x *api.Ins) { x.To.Sheet += "\x00" }, func(x *api.Ins) { x.Op += 19 }, func(x *api.Ins) { x.Op -= 19 },
			func(x *api.Ins) { x.Ref.FixCol = !x.Ref.FixCol }, func(x *api.Ins) { x.To.FixCol = !x.To.FixCol },
		} {
			y := x
			do(&y)
			named := i > 12 && (x.Op == api.InRange || x.Op == api.InRef && i == 13) && !x.Ref.Bad
			if code.Right(within(y)) != named {
				t.Errorf("Right is %v with %+v", !named, y)
			}
		}
	}
	for _, x := range []api.Ins{
		{}, {Op: -1}, {Op: 20}, {Op: math.MaxInt}, {Op: math.MinInt}, {Op: api.InNum, N: api.Dec{M: 10}}, {Op: api.InNum, N: api.Dec{E: 1}}, ins(api.InText, 0, 0, strings.Repeat("x", 201)), ins(api.InText, 0, 0, "\xff"), ins(api.InText, 0, 0, "\x7f"), ins(api.InText, 1, 0, ""), ins(api.InTruth, 2, 0, ""), ins(api.InTruth, -1, 0, ""), ins(api.InFault, 0, 0, ""), ins(api.InFault, 10, 0, ""), ins(api.InFault, -1, 0, ""), {Op: api.InRef, To: bad}, {Op: api.InRef, Ref: api.Ref{Bad: true, Row: 1}}, {Op: api.InRef, Ref: api.Ref{Col: 52}}, {Op: api.InRange, To: api.Ref{Bad: true, Col: 1}}, ins(api.InEmpty, 1, 0, ""), ins(api.InEmpty, 0, 1, ""), ins(api.InEmpty, 0, 0, "x"),
		ins(api.InOp, 0, 0, ""), ins(api.InOp, 0, 0, "%"), ins(api.InOp, 0, 0, "=="), ins(api.InOp, 0, 0, ":"), ins(api.InOp, 2, 0, "+"), ins(api.InAhead, 0, 0, ""), ins(api.InAhead, 0, 0, "*"), ins(api.InAhead, 0, 0, "%"), ins(api.InBack, 0, 0, ""), ins(api.InBack, 0, 0, "+"),
		ins(api.InCall, 1, 0, ""), ins(api.InCall, 1, 0, long), ins(api.InCall, 1, 0, "a,b"), ins(api.InCall, 1, 0, "a;b"), ins(api.InCall, 1, 0, "a b"), ins(api.InCall, 1, 0, "\n"), ins(api.InCall, -1, 0, "x"), ins(api.InCall, 401, 0, "x"), ins(api.InCall, math.MaxInt, 0, "x"), ins(api.InArray, 0, 1, ""), ins(api.InArray, 1, 0, ""), ins(api.InArray, 0, 0, ""), ins(api.InArray, -1, -1, ""), ins(api.InArray, math.MaxInt, math.MaxInt, ""), ins(api.InArray, 1<<32, 1<<32, ""), ins(api.InArray, 1, 1, "x"),
		ins(api.InUnless, -1, 1, ""), ins(api.InUnless, 1, -1, ""), ins(api.InUnless, 2, 1, ""), ins(api.InUnless, 0, 2, ""), ins(api.InUnless, math.MaxInt, 1, ""), ins(api.InGo, -1, 0, ""), ins(api.InGo, 1, 0, ""), ins(api.InGo, math.MaxInt, 0, ""), ins(api.InGo, math.MinInt, 0, ""),
		ins(api.InFunc, 0, 0, ""), ins(api.InFunc, 2, 0, ""), ins(api.InFunc, -1, 0, ""), ins(api.InFunc, 1, 0, ","), ins(api.InFunc, 1, 0, "x,"), ins(api.InFunc, 1, 0, ";"), ins(api.InFunc, 1, 0, "x;"), ins(api.InFunc, 1, 0, "x;f,g"), ins(api.InFunc, 1, 0, "x;f;g"), ins(api.InFunc, 1, 0, "x y"), ins(api.InFunc, 1, 0, long), ins(api.InFunc, 1, 0, ";"+long), ins(api.InFunc, 1, 0, strings.Repeat("x,", 40)+"x"), ins(api.InApply, -1, 0, ""), ins(api.InApply, 401, 0, ""), ins(api.InApply, math.MaxInt, 0, ""), ins(api.InApply, math.MinInt, 0, ""),
		ins(api.InKeep, 0, 0, ""), ins(api.InKeep, 0, 0, long), ins(api.InKeep, 0, 0, "a,b"), ins(api.InKeep, 1, 0, "x"), ins(api.InGet, 0, 0, ""), ins(api.InGet, 0, 0, "a;"), ins(api.InForget, -1, 0, ""), ins(api.InForget, 401, 0, ""), ins(api.InForget, math.MinInt, 0, ""),
	} {
		if code.Right(within(x)) {
			t.Errorf("Right is true with %+v", x)
		}
		if s, err := code.Text(within(x)); s != "" || err != api.ErrCode {
			t.Errorf("Text with %+v: %q, error %d; want ErrCode", x, s, err)
		}
	}
}

// P6.1: blocks and parameters, and how many of all there may be.
func TestRightBlocks(t *testing.T) {
	blocks := func(sizes ...int) api.Code {
		c := api.Code{}
		for _, n := range sizes {
			l := []api.Ins{lay}
			for range (n - 1) / 2 {
				l = append(l, lay, add)
			}
			if n%2 == 0 {
				l = append(l, ins(api.InBack, 0, 0, "%"))
			}
			c.Blocks, c.Params = append(c.Blocks, l), append(c.Params, "")
		}
		return c
	}
	params := func(s ...string) api.Code {
		c := blocks(1, 1)
		c.Params = s
		return c
	}
	sizes := slices.Repeat([]int{20}, 20)
	for i, c := range []api.Code{blocks(1), blocks(400), blocks(200, 200), blocks(sizes...), params("", ""), params("", "x"), params("", "x,x,\xff"), params("", strings.Repeat("x,", 399)+"x")} {
		if !code.Right(c) {
			t.Errorf("Right of code %d is false", i)
		}
	}
	func2 := api.Ins{Op: api.InFunc, A: 1}
	back := blocks(1, 1, 1)
	back.Blocks[1] = []api.Ins{func2}
	ahead := blocks(1, 1, 1)
	ahead.Blocks[1] = []api.Ins{{Op: api.InFunc, A: 2}}
	if !code.Right(ahead) {
		t.Error("Right of a function of the next block is false")
	}
	far := blocks(1, 1, 1)
	far.Blocks[1] = []api.Ins{{Op: api.InFunc, A: 3}}
	unbalanced := blocks(1, 1)
	unbalanced.Blocks[1] = nil
	sizes[7] = 21
	for i, c := range []api.Code{{}, {Params: []string{""}}, {Blocks: [][]api.Ins{{lay}}}, one(), blocks(401), blocks(200, 201), blocks(sizes...), params(""), params("", "", ""), params("x", ""), params("", ","), params("", "x,"), params("", " x"), params("", "x;y"), params("", strings.Repeat("n", 31)), params("", strings.Repeat("x,", 400)+"x"), params("", strings.Repeat(",", 100000)), back, far, unbalanced, one(ins(api.InCall, -1, 0, "F"), add), one(api.Ins{Op: api.InFunc}), one(api.Ins{Op: api.InFunc, A: -1})} {
		if code.Right(c) {
			t.Errorf("Right of wrong code %d is true", i)
		}
		if s, err := code.Text(c); s != "" || err != api.ErrCode {
			t.Errorf("Text of wrong code %d: %q, error %d; want ErrCode", i, s, err)
		}
	}
	many := blocks(1)
	for range 21 {
		many.Blocks, many.Params = append(many.Blocks, []api.Ins{lay}), append(many.Params, "")
		if code.Right(many) != (len(many.Blocks) <= 20) {
			t.Errorf("Right of %d blocks", len(many.Blocks))
		}
	}
}

// balanced goes all ways through a block, one by one, as P6.1 says.
func balanced(l []api.Ins) bool {
	type found struct{ values, names int }
	met := map[int]found{}
	var walk func(at int, f found) bool
	walk = func(at int, f found) bool {
		if at > len(l) {
			return false
		}
		if had, ok := met[at]; ok {
			return had == f
		}
		met[at] = f
		if at == len(l) {
			return f == found{1, 0}
		}
		x := l[at]
		moves := map[int][2]int{api.InEmpty: {0, 1}, api.InOp: {2, 1}, api.InBack: {1, 1}, api.InCall: {x.A, 1}, api.InArray: {x.A * x.B, 1}, api.InApply: {x.A + 1, 1}, api.InKeep: {1, 0}, api.InGet: {0, 1}, api.InUnless: {1, 0}}[x.Op]
		if f.values < moves[0] || x.Op == api.InForget && f.names < x.A {
			return false
		}
		g := found{f.values - moves[0] + moves[1], f.names}
		switch x.Op {
		case api.InKeep:
			g.names++
		case api.InForget:
			g.names -= x.A
		case api.InGo:
			return walk(at+1+x.A, g)
		case api.InUnless:
			return walk(at+1, g) && walk(at+1+x.A, g) && walk(at+1+x.B, found{g.values + 1, g.names})
		}
		return walk(at+1, g)
	}
	return walk(0, found{}) && len(met) == len(l)+1
}

// dice are numbers that look like chance, and are the same in each run.
type dice uint64

func (d *dice) below(n int) int {
	*d = *d*6364136223846793005 + 1442695040888963407
	return int(uint64(*d)>>33) % n
}

// P6.1: whichever way is gone, what is needed is there.
func TestRightWays(t *testing.T) {
	unless, leave := func(a, b int) api.Ins { return ins(api.InUnless, a, b, "") }, func(a int) api.Ins { return ins(api.InGo, a, 0, "") }
	get := ins(api.InGet, 0, 0, "x")
	for i, l := range [][]api.Ins{
		{lay}, {lay, leave(0)}, {get}, {lay, drop, lay, forget}, {lay, drop, forget, lay}, {lay, unless(2, 3), lay, leave(1), lay}, {lay, unless(0, 1), lay}, {lay, drop, lay, drop, lay, ins(api.InForget, 2, 0, "")}, {lay, unless(5, 6), lay, drop, lay, forget, leave(1), lay},
	} {
		if !code.Right(one(l...)) {
			t.Errorf("Right of block %d is false", i)
		}
	}
	for i, l := range [][]api.Ins{
		{}, {add}, {lay, add}, {lay, lay}, {lay, drop}, {lay, drop, lay}, {lay, forget}, {lay, drop, lay, ins(api.InForget, 2, 0, "")}, {lay, leave(1)}, {lay, leave(1), lay}, {lay, leave(1), ins(api.InBack, 0, 0, "%")}, {lay, unless(2, 3), lay, lay, lay}, {lay, unless(1, 1), lay}, {lay, unless(0, 0), lay}, {lay, unless(2, 2), lay, leave(1), lay}, {lay, unless(2, 4), lay, leave(1), lay}, {lay, unless(3, 3), lay, leave(1), lay}, {unless(0, 1), lay}, {lay, unless(4, 5), lay, drop, lay, leave(1), lay}, {ins(api.InApply, 0, 0, "")}, {lay, ins(api.InApply, 1, 0, "")}, {lay, ins(api.InArray, 1, 2, "")}, {leave(0), lay, lay}, {lay, leave(2), lay, drop},
	} {
		if code.Right(one(l...)) {
			t.Errorf("Right of wrong block %d is true", i)
		}
	}
	d := dice(1)
	counts := map[bool]int{}
	for range 300000 {
		var l []api.Ins
		for range 1 + d.below(9) {
			n := d.below(4)
			l = append(l, []api.Ins{lay, lay, get, add, add, drop, forget, leave(n), unless(n, d.below(5)), unless(2, 3), ins(api.InCall, n, 0, "F"), ins(api.InApply, n%2, 0, ""), ins(api.InArray, 1, 1+n%2, ""), ins(api.InBack, 0, 0, "%")}[d.below(14)])
		}
		want := balanced(l)
		counts[want]++
		if code.Right(one(l...)) != want {
			t.Fatalf("Right of %+v is %v", l, !want)
		}
	}
	if counts[true] < 3000 {
		t.Errorf("only %d blocks are right", counts[true])
	}
}

// P6.4: Same goes through all fields, and all lists.
func TestSame(t *testing.T) {
	make := func() api.Code {
		return api.Code{Blocks: [][]api.Ins{{lay, add}, nil, {drop}}, Params: []string{"", "x", "\xff"}}
	}
	if !code.Same(make(), make()) || !code.Same(api.Code{}, api.Code{Blocks: [][]api.Ins{}, Params: []string{}}) || !code.Same(one(), api.Code{Blocks: [][]api.Ins{{}}, Params: []string{""}}) {
		t.Error("Same of the same is false")
	}
	for i, do := range []func(c *api.Code){
		func(c *api.Code) { c.Blocks = c.Blocks[:2] }, func(c *api.Code) { c.Params = c.Params[:2] }, func(c *api.Code) { c.Params[2] = "y" }, func(c *api.Code) { c.Blocks[1] = []api.Ins{{}} }, func(c *api.Code) { c.Blocks[0] = c.Blocks[0][:1] }, func(c *api.Code) { c.Blocks[0], c.Blocks[1] = c.Blocks[1], c.Blocks[0] },
		func(c *api.Code) { c.Blocks[0][1].Op++ }, func(c *api.Code) { c.Blocks[0][1].A++ }, func(c *api.Code) { c.Blocks[0][1].B++ }, func(c *api.Code) { c.Blocks[0][1].S = "-" }, func(c *api.Code) { c.Blocks[0][1].N.M++ }, func(c *api.Code) { c.Blocks[0][1].N.E++ }, func(c *api.Code) { c.Blocks[2][0].Ref.Row++ }, func(c *api.Code) { c.Blocks[2][0].Ref.Bad = true }, func(c *api.Code) { c.Blocks[2][0].To.Sheet = "S" }, func(c *api.Code) { c.Blocks[2][0].To.FixRow = true },
	} {
		c := make()
		do(&c)
		if code.Same(c, make()) || code.Same(make(), c) {
			t.Errorf("Same finds no difference in change %d", i)
		}
	}
}

// P6.4: how code is written.
func TestText(t *testing.T) {
	c := api.Code{Params: []string{"", "x,Y", ""}, Blocks: [][]api.Ins{{
		{Op: api.InNum, N: api.Dec{M: -15, E: -1}},
		ins(api.InText, 0, 0, " é "),
		ins(api.InOp, 0, 0, "&"),
		ins(api.InTruth, 1, 0, ""),
		ins(api.InFault, 9, 0, ""),
		{Op: api.InRef, Ref: api.Ref{Sheet: "It's", Row: 4, Col: 27, FixRow: true}},
		{Op: api.InRef, Ref: api.Ref{Bad: true}},
		{Op: api.InRange, Ref: api.Ref{Bad: true}, To: api.Ref{Sheet: "S", Row: 9}},
		ins(api.InCall, 6, 0, "\xff"),
		ins(api.InUnless, 3, 5, ""),
		lay,
		ins(api.InAhead, 0, 0, "-"),
		ins(api.InGo, 2, 0, ""),
		lay,
		ins(api.InBack, 0, 0, "%"),
		ins(api.InGet, 0, 0, "x"),
		ins(api.InArray, 2, 1, ""),
		ins(api.InKeep, 0, 0, "y"),
		ins(api.InFunc, 2, 0, "a,b;f"),
		ins(api.InFunc, 1, 0, ""),
		ins(api.InApply, 1, 0, ""),
		ins(api.InForget, 1, 0, ""),
	}, {lay}, {ins(api.InTruth, 0, 0, "")}}}
	want := "block 0 ()\n  num -1.5\n  text  é \n  op &\n  truth 1\n  fault 9\n  ref 'It''s'!AB$5\n  ref #REF!\n  range #REF! S!A10\n  call \xff 6\n  unless 3 5\n  empty\n  ahead -\n  go 2\n  empty\n  back %\n  get x\n  array 2 1\n  keep y\n  func 2 a,b;f\n  func 1 \n  apply 1\n  forget 1\nblock 1 (x,Y)\n  empty\nblock 2 ()\n  truth 0\n"
	if s, err := code.Text(c); s != want || err != api.OK {
		t.Errorf("Text: %q, error %d; want %q", s, err, want)
	}
}
