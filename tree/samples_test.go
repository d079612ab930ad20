package tree_test

import (
	"math"
	"strconv"
	"strings"

	"tabula/api"
)

func num(n int) api.Node                  { return api.Node{Kind: api.NNum, N: api.Dec{M: n}} }
func text(s string) api.Node              { return api.Node{Kind: api.NText, S: s} }
func truth(b bool) api.Node               { return api.Node{Kind: api.NTruth, B: b} }
func fault(n int) api.Node                { return api.Node{Kind: api.NFault, Err: n} }
func cell(r api.Ref) api.Node             { return api.Node{Kind: api.NRef, Ref: r} }
func span(a, b api.Ref) api.Node          { return api.Node{Kind: api.NRange, Ref: a, To: b} }
func name(s string) api.Node              { return api.Node{Kind: api.NName, S: s} }
func column(s string) api.Node            { return api.Node{Kind: api.NCol, S: s} }
func op(s string, a, b api.Node) api.Node { return node(api.NOp, s, a, b) }
func ahead(s string, a api.Node) api.Node { return node(api.NAhead, s, a) }
func back(a api.Node) api.Node            { return node(api.NBack, "%", a) }

func call(s string, kids ...api.Node) api.Node { return node(api.NCall, s, kids...) }
func fun(s string, kids ...api.Node) api.Node  { return node(api.NFunc, s, kids...) }
func apply(kids ...api.Node) api.Node          { return node(api.NApply, "", kids...) }
func let(s string, kids ...api.Node) api.Node  { return node(api.NLet, s, kids...) }

func node(kind int, s string, kids ...api.Node) api.Node {
	return api.Node{Kind: kind, S: s, Kids: kids}
}

func array(rows int, kids ...api.Node) api.Node {
	return api.Node{Kind: api.NArray, Rows: rows, Kids: kids}
}

func many(n int, kid api.Node) []api.Node {
	var kids []api.Node
	for range n {
		kids = append(kids, kid)
	}
	return kids
}

// tower is a tree that is so deep.
func tower(deep int) api.Node {
	n := num(1)
	for range deep - 1 {
		n = ahead("-", n)
	}
	return n
}

// rights are right trees, and how they are written.
func rights() map[string]api.Node {
	a1, b2 := api.Ref{}, api.Ref{Row: 1, Col: 1}
	most := strings.Repeat("n", 30)
	quotes := strings.Repeat(`"`, 200)
	return map[string]api.Node{
		"0": num(0), "12.5": {Kind: api.NNum, N: api.Dec{M: 125, E: -1}}, "999999999999999000000000": {Kind: api.NNum, N: api.Dec{M: 999999999999999, E: 9}}, "0.000000001": {Kind: api.NNum, N: api.Dec{M: 1, E: -9}},
		`""`: text(""), `"a""é"`: text(`a"é`), `"` + strings.Repeat("x", 200) + `"`: text(strings.Repeat("x", 200)), `"` + quotes + quotes + `"`: text(quotes),
		"TRUE": truth(true), "FALSE": truth(false),
		"#NULL!": fault(1), "#DIV/0!": fault(2), "#VALUE!": fault(3), "#NAME?": fault(5), "#NUM!": fault(6), "#N/A": fault(7), "#SPILL!": fault(8), "#CIRC!": fault(9),
		"A1": cell(a1), "#REF!": cell(api.Ref{Bad: true}), "'Two x'!$B$3": cell(api.Ref{Sheet: "Two x", Row: 2, Col: 1, FixRow: true, FixCol: true}), "S!AZ200": cell(api.Ref{Sheet: "S", Row: 199, Col: 51}),
		"A1:B2": span(a1, b2), "B2:A1": span(b2, a1), "S!A1:B$2": span(api.Ref{Sheet: "S"}, api.Ref{Row: 1, Col: 1, FixRow: true}), "A1:A1": span(a1, a1),
		"x": name("x"), "Rate.1": name("Rate.1"), most: name(most), "T[a b]": column("T[a b]"), "T[é]": column("T[é]"), "T[ AZaz09!_]": column("T[ AZaz09!_]"), most + "[" + most + "]": column(most + "[" + most + "]"),
		"SUM()": call("SUM"), "SUM(1)": call("SUM", num(1)), "A1(2)": call("A1", num(2)), "TRUE()": call("TRUE"), "_(1)": call("_", num(1)), "AMZ09_.()": call("AMZ09_."), "X.1_()": call("X.1_"), strings.ToUpper(most) + "()": call(strings.ToUpper(most)), "LAMBDA.(1)": call("LAMBDA.", num(1)),
		"{1}": array(1, num(1)), "{1,2;3,4}": array(2, num(1), num(2), num(3), num(4)), "{1,2,3;4,5,6}": array(2, num(1), num(2), num(3), num(4), num(5), num(6)), "{1;2;3}": array(3, num(1), num(2), num(3)), `{-1,"a";TRUE,#N/A}`: array(2, ahead("-", num(1)), text("a"), truth(true), fault(7)), "{-0}": array(1, ahead("-", num(0))),
		"LAMBDA(1)": fun("", num(1)), "LAMBDA(x)": fun("", name("x")), "LAMBDA(x,x)": fun("x", name("x")), "LAMBDA(x,Y,z,x+1)": fun("x,Y,z", op("+", name("x"), num(1))),
		"LET(x,1,x)": let("x", num(1), name("x")), "LET(x,y,z,2,x)": let("x,z", name("y"), num(2), name("x")),
		"LET(f,LAMBDA(n,F(n)),f)": let("f", fun("n", call("F", name("n"))), name("f")),
		"F(1)(2)":                 apply(call("F", num(1)), num(2)), "LAMBDA(x,x)(1)": apply(fun("x", name("x")), num(1)), "LET(x,1,x)()": apply(let("x", num(1), name("x"))), "F()()(1,2)": apply(apply(call("F")), num(1), num(2)), "(x)(1)": apply(name("x"), num(1)), "(1)()": apply(num(1)), "(A1:B2)(1)": apply(span(a1, b2), num(1)), "(-1)(2)": apply(ahead("-", num(1)), num(2)), "({1})(1)": apply(array(1, num(1)), num(1)), "(1+2)(3)": apply(op("+", num(1), num(2)), num(3)), "(5%)(3)": apply(back(num(5)), num(3)),
		"-2^2": op("^", ahead("-", num(2)), num(2)), "-(2^2)": ahead("-", op("^", num(2), num(2))), "2^-2": op("^", num(2), ahead("-", num(2))), "2^3^2": op("^", op("^", num(2), num(3)), num(2)), "2^(3^2)": op("^", num(2), op("^", num(3), num(2))),
		"50%": back(api.Node{Kind: api.NNum, N: api.Dec{M: 5, E: 1}}), "5%%": back(back(num(5))), "-5%": back(ahead("-", num(5))), "-(5%)": ahead("-", back(num(5))), "--+1": ahead("-", ahead("-", ahead("+", num(1)))), "(1^2)%": back(op("^", num(1), num(2))), "2^5%": op("^", num(2), back(num(5))), "5%^2": op("^", back(num(5)), num(2)),
		"1-(2-3)": op("-", num(1), op("-", num(2), num(3))), "1-2-3": op("-", op("-", num(1), num(2)), num(3)), "1-2+3": op("+", op("-", num(1), num(2)), num(3)), "1-(2+3)": op("-", num(1), op("+", num(2), num(3))), "1+2*3": op("+", num(1), op("*", num(2), num(3))), "2*3^2": op("*", num(2), op("^", num(3), num(2))), "2^3*2": op("*", op("^", num(2), num(3)), num(2)), "(2*3)^2": op("^", op("*", num(2), num(3)), num(2)), "(1+2)*3": op("*", op("+", num(1), num(2)), num(3)), "1/(2*3)": op("/", num(1), op("*", num(2), num(3))), "1/2*3": op("*", op("/", num(1), num(2)), num(3)),
		"1&2+3": op("&", num(1), op("+", num(2), num(3))), "(1&2)+3": op("+", op("&", num(1), num(2)), num(3)), "1&(2&3)": op("&", num(1), op("&", num(2), num(3))), "1&2&3": op("&", op("&", num(1), num(2)), num(3)),
		"1=2<>3": op("<>", op("=", num(1), num(2)), num(3)), "1<(2<=3)": op("<", num(1), op("<=", num(2), num(3))), "(1>2)&3": op("&", op(">", num(1), num(2)), num(3)), "1>=2&3": op(">=", num(1), op("&", num(2), num(3))), "(1=2)%": back(op("=", num(1), num(2))), "-(1=2)": ahead("-", op("=", num(1), num(2))), "-x*-y": op("*", ahead("-", name("x")), ahead("-", name("y"))),
		"SUM(1=2,-1,LAMBDA(1+2))":     call("SUM", op("=", num(1), num(2)), ahead("-", num(1)), fun("", op("+", num(1), num(2)))),
		strings.Repeat("-", 19) + "1": tower(20), "F(" + strings.Repeat("1,", 198) + "1)": call("F", many(199, num(1))...), "{" + strings.Repeat("1,", 198) + "1}": array(1, many(199, num(1))...),
	}
}

// changed are copies of n with one field more, or another one.
func changed(n api.Node) []api.Node {
	var list []api.Node
	change := func(do func(x *api.Node)) {
		x := n
		do(&x)
		list = append(list, x)
	}
	change(func(x *api.Node) { x.Kind += 16 })
	change(func(x *api.Node) { x.S += "\x00" })
	change(func(x *api.Node) { x.N.M -= 2 * api.MaxDigit })
	change(func(x *api.Node) { x.N.E += 20 })
	change(func(x *api.Node) { x.B = !x.B })
	change(func(x *api.Node) { x.Err += 9 })
	change(func(x *api.Node) { x.Rows += 1000 })
	change(func(x *api.Node) { x.Kids = append([]api.Node{{}}, x.Kids...) })
	for _, pick := range []func(x *api.Node) *api.Ref{func(x *api.Node) *api.Ref { return &x.Ref }, func(x *api.Node) *api.Ref { return &x.To }} {
		change(func(x *api.Node) { pick(x).Sheet += "\x00" })
		change(func(x *api.Node) { pick(x).Row += 200 })
		change(func(x *api.Node) { pick(x).Col += 52 })
		change(func(x *api.Node) { pick(x).FixRow = !pick(x).FixRow })
		change(func(x *api.Node) { pick(x).FixCol = !pick(x).FixCol })
		change(func(x *api.Node) { pick(x).Bad = !pick(x).Bad })
	}
	return list
}

// wrongs are trees that are not right.
func wrongs() []api.Node {
	long, bad := strings.Repeat("n", 31), api.Ref{Bad: true}
	list := []api.Node{
		{}, {Kind: -1}, {Kind: 17}, {Kind: math.MaxInt}, {Kind: math.MinInt},
		num(-1), num(10), num(math.MaxInt), {Kind: api.NNum, N: api.Dec{E: 1}}, {Kind: api.NNum, N: api.Dec{M: 1, E: -10}},
		text(strings.Repeat("x", 201)), text("\x00"), text("\xff"), text("\x7f"), text("\n"), fault(0), fault(4), fault(10), fault(-1),
		cell(api.Ref{Row: 200}), cell(api.Ref{Col: -1}), cell(api.Ref{Bad: true, Row: 1}), cell(api.Ref{Sheet: long}), cell(api.Ref{Sheet: "\x00"}),
		span(bad, api.Ref{}), span(api.Ref{}, bad), span(api.Ref{}, api.Ref{Sheet: "S"}), span(api.Ref{Sheet: "S"}, api.Ref{Sheet: "S"}), span(api.Ref{Row: 200}, api.Ref{}), span(api.Ref{}, api.Ref{Col: 52}),
		name(""), name("A1"), name("TRUE"), name("1a"), name("a b"), name("$a"), name(long), name("x,y"),
		column(""), column("T"), column("T[]"), column("T[a"), column("Ta]"), column("[a]"), column("A1[a]"), column("T[a]b"), column("T[[a]"), column("T[a]]"), column("T[" + long + "]"), column("T[\x00]"), column("T[\xff]"), column(long + "[a]"), column("T[a][b]"), column("TRUE[a]"),
		op("", num(1), num(2)), op("==", num(1), num(2)), op("%", num(1), num(2)), op("!", num(1), num(2)), op("><", num(1), num(2)), op(":", num(1), num(2)), op("+ ", num(1), num(2)), node(api.NOp, "+"), node(api.NOp, "+", num(1)), node(api.NOp, "+", many(3, num(1))...),
		ahead("", num(1)), ahead("*", num(1)), ahead("--", num(1)), node(api.NAhead, "-"), node(api.NAhead, "-", num(1), num(2)), node(api.NBack, "", num(1)), node(api.NBack, "+", num(1)), node(api.NBack, "%"), node(api.NBack, "%", num(1), num(2)),
		call(""), call("sum"), call("Sum"), call("LAMBDA", num(1)), call("LET", num(1)), call("1A"), call(".A"), call("$A"), call("A B"), call("A!"), call("É"), call("A\xff"), call(strings.ToUpper(long)),
		array(0), array(1), array(0, num(1)), array(-1, num(1)), array(2, num(1)), array(2, many(3, num(1))...), array(3, num(1), num(2)), array(math.MinInt, num(1)), array(1, name("x")), array(1, cell(api.Ref{})), array(1, cell(bad)), array(1, array(1, num(1))), array(1, call("F")), array(1, ahead("+", num(1))), array(1, ahead("-", text("a"))), array(1, ahead("-", ahead("-", num(1)))), array(1, back(num(1))), array(1, op("+", num(1), num(2))), array(1, node(api.NAhead, "-")), array(1, num(1), num(-1)), array(1, ahead("-", num(-1))), array(2, num(1), text("\x00")),
		fun("x"), fun(""), fun("x", num(1), num(2)), fun("A1", num(1)), fun("x,", num(1)), fun(",x", num(1)), fun("x,,y", num(1)), fun("x,x", num(1)), fun("x,X", num(1)), fun("x,y,X", num(1)), fun("x y", num(1)), fun("x, y", num(1)), fun(long, num(1)), fun(",", num(1)), fun("TRUE", num(1)),
		apply(), let("", num(1)), let("", num(1), num(2)), let("x"), let("x", num(1)), let("x", num(1), num(2), num(3)), let("x,y", num(1), num(2)), let("x,X", num(1), num(2), num(3)), let("A1", num(1), num(2)), let("x,", num(1), num(2), num(3)), let("x,y", many(4, num(1))...),
		tower(21), call("F", many(200, num(1))...), array(1, many(200, num(1))...),
	}
	for _, n := range rights() {
		if len(n.Kids) == 0 && n.Kind != api.NCall {
			n.Kids = []api.Node{num(1)}
			list = append(list, n)
			n.Kids = nil
		}
		for i, x := range changed(n) {
			if i == 4 && n.Kind == api.NTruth || i > 7 && (n.Kind == api.NRef || n.Kind == api.NRange) {
				continue
			}
			list = append(list, x)
		}
	}
	for _, r := range []api.Ref{{Sheet: "S"}, {Row: 1}, {Col: 1}, {FixRow: true}, {FixCol: true}, bad} {
		list = append(list, api.Node{Kind: api.NRef, To: r}, api.Node{Kind: api.NRef, Ref: bad, To: r})
	}
	var deep []api.Node
	for _, n := range list {
		deep = append(deep, call("F", num(1), n), apply(n, num(1)))
	}
	return append(list, deep...)
}

// spelt is a tree with all that it has, whatever it is.
func spelt(n api.Node) string {
	s := strconv.Itoa(n.Kind) + "[" + n.S + "|" + strconv.Itoa(n.N.M) + "e" + strconv.Itoa(n.N.E) + strconv.FormatBool(n.B) + strconv.Itoa(n.Err) + "|" + point(n.Ref) + "|" + point(n.To) + "|" + strconv.Itoa(n.Rows)
	for _, kid := range n.Kids {
		s += "," + spelt(kid)
	}
	return s + "]"
}

func point(r api.Ref) string {
	return r.Sheet + "!" + strconv.Itoa(r.Row) + "." + strconv.Itoa(r.Col) + strconv.FormatBool(r.FixRow) + strconv.FormatBool(r.FixCol) + strconv.FormatBool(r.Bad)
}

// dice are numbers that look like chance, and are the same in each run.
type dice uint64

func (d *dice) below(n int) int {
	*d = *d*6364136223846793005 + 1442695040888963407
	return int(uint64(*d)>>33) % n
}

// tree is a right tree that is at most so deep.
func (d *dice) tree(deep int) api.Node {
	if deep == 1 || d.below(4) == 0 {
		return d.leaf()
	}
	kid := func() api.Node { return d.tree(deep - 1) }
	ops := []string{"=", "<>", "<", "<=", ">", ">=", "&", "+", "-", "*", "/", "^"}
	names := []string{"x", "y1", "Z_"}
	switch d.below(9) {
	case 0, 1, 2:
		return op(ops[d.below(12)], kid(), kid())
	case 3:
		return ahead("+-"[d.below(2):][:1], kid())
	case 4:
		return back(kid())
	case 5:
		return call([]string{"IF", "SUM", "A1", "TRUE", "X.Y"}[d.below(5)], d.kids(deep, d.below(4))...)
	case 6:
		return fun(strings.Join(names[:d.below(4)], ","), kid())
	case 7:
		return apply(d.kids(deep, 1+d.below(3))...)
	}
	n := 1 + d.below(3)
	return let(strings.Join(names[:n], ","), d.kids(deep, n+1)...)
}

func (d *dice) kids(deep int, n int) []api.Node {
	var kids []api.Node
	for range n {
		kids = append(kids, d.tree(deep-1))
	}
	return kids
}

func (d *dice) leaf() api.Node {
	r := api.Ref{Row: d.below(200), Col: d.below(52), FixRow: d.below(2) > 0, FixCol: d.below(2) > 0}
	constants := []api.Node{num(d.below(9)), {Kind: api.NNum, N: api.Dec{M: 15, E: -1}}, text([]string{"", `"`, "a,b)", "é"}[d.below(4)]), truth(d.below(2) > 0), fault([]int{1, 2, 3, 5, 6, 7, 8, 9}[d.below(8)]), ahead("-", num(d.below(9)))}
	switch d.below(8) {
	case 0:
		return cell(r)
	case 1:
		to := r
		r.Sheet = []string{"", "S", "It's"}[d.below(3)]
		to.Row = d.below(200)
		return span(r, to)
	case 2:
		return name([]string{"x", "Y1", "rate", "TRUE1"}[d.below(4)])
	case 3:
		return column("T[a b]")
	case 4:
		rows, cols := 1+d.below(3), 1+d.below(3)
		var kids []api.Node
		for range rows * cols {
			kids = append(kids, constants[d.below(6)])
		}
		return array(rows, kids...)
	case 5:
		return cell(api.Ref{Bad: true})
	}
	return constants[d.below(5)]
}
