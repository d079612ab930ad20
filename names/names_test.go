package names_test

import (
	"math"
	"slices"
	"strconv"
	"strings"
	"testing"

	"tabula/api"
	"tabula/book"
	"tabula/names"
	"tabula/tree"
)

// sheets is a workbook of three sheets with some names, told as `Name: =formula`, or as `1 Name: =formula` of a sheet.
func sheets(list ...string) api.Book {
	b := api.Book{
		Sheets: []api.Sheet{{Name: "S"}, {Name: "Two x"}, {Name: "It's"}},
		Tables: []api.Table{
			{Name: "T", Sheet: 1, Row: 2, Col: 1, Rows: 3, Cols: []string{"Price", "b c"}},
			{Name: "one", Sheet: 0, Row: 198, Col: 51, Rows: 1, Cols: []string{"a"}},
		},
	}
	for _, s := range list {
		called, input, _ := strings.Cut(s, ": ")
		n := api.Name{Name: called, Sheet: -1, Input: input}
		if sheet, rest, found := strings.Cut(called, " "); found {
			n.Name = rest
			n.Sheet, _ = strconv.Atoi(sheet)
		}
		b.Names = append(b.Names, n)
	}
	return b
}

func read(t *testing.T, formula string) api.Node {
	t.Helper()
	n, _, err := tree.Read(formula)
	if err != api.OK {
		t.Fatalf("%s: error %d", formula, err)
	}
	return n
}

func print(n api.Node) string {
	s, err := tree.Print(n)
	if err != api.OK {
		return "none"
	}
	return s
}

type want struct {
	names    []string
	sheet    int
	formula  string
	expanded string
}

func checkAll(t *testing.T, list []want) {
	t.Helper()
	for _, c := range list {
		b, n := sheets(c.names...), read(t, c.formula)
		got, err := names.Expand(b, c.sheet, n)
		if print(got) != c.expanded || err != api.OK {
			t.Errorf("%q: %s as seen from %d: %s, error %d; want %s", c.names, c.formula, c.sheet, print(got), err, c.expanded)
		}
		if !tree.Same(n, read(t, c.formula)) {
			t.Errorf("%s: what was handed in is another one", c.formula)
		}
		b.Sheets[c.sheet].Cells = []api.Cell{{Row: 7, Col: 8, Input: "=" + c.formula}}
		cell, ok, err := names.Formula(b, api.At{Sheet: c.sheet, Row: 7, Col: 8})
		if !tree.Same(cell, got) || !ok || err != api.OK {
			t.Errorf("%q: Formula of %s: %s, %v, error %d", c.names, c.formula, print(cell), ok, err)
		}
	}
}

// P10.2: names, and from where they are seen.
func TestNames(t *testing.T) {
	rates := []string{"Rate: =S!$A$1*2", "1 Rate: =B2", "2 other: =RATE+1", "Sum.All: =SUM(S!A1:B2)", "k: =other", "2 lone: =C3"}
	checkAll(t, []want{
		{nil, 0, "1+A1", "1+A1"},
		{nil, 0, "x+1", "#NAME?+1"},
		{nil, 2, "F(x,-y%,{1,2},(z)(w))", "F(#NAME?,-#NAME?%,{1,2},(#NAME?)(#NAME?))"},
		{rates, 0, "Rate+1", "S!$A$1*2+1"},
		{rates, 0, "(1+rATE)^RATE", "(1+S!$A$1*2)^(S!$A$1*2)"},
		{rates, 1, "Rate+1", "B2+1"},
		{rates, 2, "Rate+1", "S!$A$1*2+1"},
		{rates, 2, "OTHER", "S!$A$1*2+1"},
		{rates, 0, "other", "#NAME?"},
		{rates, 1, "other&lone", "#NAME?&#NAME?"},
		{rates, 2, "lone", "C3"},
		{rates, 2, "k", "#NAME?"},
		{rates, 0, "sum.all/2", "SUM(S!A1:B2)/2"},
		{rates, 0, "Rate&Rate", "S!$A$1*2&S!$A$1*2"},
		{rates, 0, "rates", "#NAME?"},
		{[]string{"a: =b+1", "b: =a+1"}, 0, "a", "#NAME?+1+1"},
		{[]string{"a: =b+1", "b: =a+1"}, 1, "b-a", "#NAME?+1+1-(#NAME?+1+1)"},
		{[]string{"a: =a"}, 0, "a*a", "#NAME?*#NAME?"},
		{[]string{"a: =b+b", "b: =2"}, 0, "a+b", "2+2+2"},
		{[]string{"0 a: =b", "b: =a", "a: =1"}, 0, "a", "1"},
		{[]string{"0 a: =b", "b: =a"}, 0, "a", "#NAME?"},
		{[]string{"1 a: =a", "a: =1"}, 1, "a", "#NAME?"},
	})
}

// P10.2: local names, and those that hide others.
func TestLocal(t *testing.T) {
	some := []string{"x: =7", "y: =x", "f: =S!A1"}
	checkAll(t, []want{
		{some, 0, "LAMBDA(x,x+y)", "LAMBDA(x,x+7)"},
		{some, 0, "LAMBDA(X,x)(x)", "LAMBDA(X,x)(7)"},
		{some, 0, "LAMBDA(a,b,a+b+x)", "LAMBDA(a,b,a+b+7)"},
		{some, 0, "LET(x,x,x)", "LET(x,7,x)"},
		{some, 0, "LET(y,1,x,x+y,x+y)", "LET(y,1,x,7+y,x+y)"},
		{some, 0, "LET(a,x,x,a,y,x,x+y)+x", "LET(a,7,x,a,y,x,x+y)+7"},
		{some, 0, "LET(a,LET(x,1,x),x)", "LET(a,LET(x,1,x),7)"},
		{some, 0, "LET(f,LAMBDA(n,f(n)+g),f)", "LET(f,LAMBDA(n,F(n)+#NAME?),f)"},
		{some, 0, "LET(f,f,f)", "LET(f,S!A1,f)"},
		{some, 0, "LET(f,-LAMBDA(n,f),f)", "LET(f,-LAMBDA(n,S!A1),f)"},
		{some, 0, "LET(f,LAMBDA(n,f)(1),f)", "LET(f,LAMBDA(n,S!A1)(1),f)"},
		{some, 0, "LET(a,LAMBDA(1),f,LAMBDA(a+f),LAMBDA(b,a+f+b))", "LET(a,LAMBDA(1),f,LAMBDA(a+f),LAMBDA(b,a+f+b))"},
		{some, 0, "LET(a,1,LAMBDA(b+x))", "LET(a,1,LAMBDA(#NAME?+7))"},
		{some, 0, "LET(a,f,f,LAMBDA(x,LAMBDA(y,x+y+f)),a)", "LET(a,S!A1,f,LAMBDA(x,LAMBDA(y,x+y+f)),a)"},
		{some, 0, "LAMBDA(LAMBDA(x,x)(x))", "LAMBDA(LAMBDA(x,x)(7))"},
		{[]string{"x: =LET(y,1,y+z)", "z: =y", "y: =5"}, 0, "x+LET(z,2,x)", "LET(y,1,y+5)+LET(z,2,LET(y,1,y+5))"},
		{[]string{"x: =y"}, 0, "LAMBDA(y,x)", "LAMBDA(y,#NAME?)"},
	})
}

// P10.2: calls of names.
func TestCalls(t *testing.T) {
	checkAll(t, []want{
		{nil, 0, "SUM(1,nobody(2))", "SUM(1,NOBODY(2))"},
		{[]string{"Inc: =LAMBDA(n,n+1)"}, 0, "inc(A1)", "LAMBDA(n,n+1)(A1)"},
		{[]string{"Inc: =LAMBDA(n,n+1)"}, 0, "INC(inc(2))", "LAMBDA(n,n+1)(LAMBDA(n,n+1)(2))"},
		{[]string{"Inc: =LAMBDA(n,n+1)"}, 0, "LET(inc,LAMBDA(n,n),inc(2))", "LET(inc,LAMBDA(n,n),INC(2))"},
		{[]string{"Inc: =LAMBDA(n,n+1)"}, 0, "LAMBDA(inc,inc(inc))(inc)", "LAMBDA(inc,INC(inc))(LAMBDA(n,n+1))"},
		{[]string{"SUM: =LAMBDA(a,b,a-b)"}, 0, "Sum(1,SUM(2))", "LAMBDA(a,b,a-b)(1,LAMBDA(a,b,a-b)(2))"},
		{[]string{"k: =5"}, 0, "k(1)+k()", "(5)(1)+(5)()"},
		{[]string{"k: =S!A1:B2", "1 k: =-1"}, 1, "k(k)", "(-1)(-1)"},
		{[]string{"k: =k(1)"}, 0, "k", "(#NAME?)(1)"},
		{[]string{"k: =SUM(k(2),3)"}, 0, "k(4)", "SUM((#NAME?)(2),3)(4)"},
		{[]string{"1 g: =LAMBDA(1)"}, 0, "g(1)", "G(1)"},
		{[]string{"1 g: =LAMBDA(1)"}, 1, "g(x)", "LAMBDA(1)(#NAME?)"},
		{[]string{"f: =g(S!A1)", "g: =LAMBDA(x,x*f(1))"}, 0, "f", "LAMBDA(x,x*(#NAME?)(1))(S!A1)"},
	})
}

// P10.2: functions that call themselves stand for a LET.
func TestOwnName(t *testing.T) {
	fact := []string{"fact: =LAMBDA(n,IF(n<2,1,n*fact(n-1)))"}
	checkAll(t, []want{
		{fact, 0, "fact(3)", "LET(fact,LAMBDA(n,IF(n<2,1,n*FACT(n-1))),fact)(3)"},
		{fact, 1, "Fact", "LET(fact,LAMBDA(n,IF(n<2,1,n*FACT(n-1))),fact)"},
		{[]string{"F: =LAMBDA(n,f)"}, 0, "f", "LET(F,LAMBDA(n,f),F)"},
		{[]string{"f: =LAMBDA(f,f+1)"}, 0, "f", "LAMBDA(f,f+1)"},
		{[]string{"f: =LAMBDA(n,LET(F,n,f))"}, 0, "f", "LAMBDA(n,LET(F,n,f))"},
		{[]string{"f: =LAMBDA(n,LET(F,f,n))"}, 0, "f", "LET(f,LAMBDA(n,LET(F,f,n)),f)"},
		{[]string{"f: =LAMBDA(n,LET(f,LAMBDA(f()),n))"}, 0, "f", "LAMBDA(n,LET(f,LAMBDA(F()),n))"},
		{[]string{"f: =LAMBDA(n,LET(a,n,f,a,f))"}, 0, "f", "LAMBDA(n,LET(a,n,f,a,f))"},
		{[]string{"f: =LAMBDA(n,LET(a,f,f,a,f))"}, 0, "f", "LET(f,LAMBDA(n,LET(a,f,f,a,f)),f)"},
		{[]string{"f: =LAMBDA(n,LAMBDA(F,f)(f(n)))"}, 0, "f", "LET(f,LAMBDA(n,LAMBDA(F,f)(F(n))),f)"},
		{[]string{"f: =LAMBDA(n,LAMBDA(m,f(m)))"}, 0, "f(1)(2)", "LET(f,LAMBDA(n,LAMBDA(m,F(m))),f)(1)(2)"},
		{[]string{"f: =LAMBDA(n,g(n))", "g: =LAMBDA(n,f(n))"}, 0, "f(1)", "LAMBDA(n,LAMBDA(n,(#NAME?)(n))(n))(1)"},
		{[]string{"f: =LAMBDA(n,g(n)+f(n))", "g: =LAMBDA(n,n)"}, 0, "f(1)", "LET(f,LAMBDA(n,LAMBDA(n,n)(n)+F(n)),f)(1)"},
		{[]string{"f: =LET(a,1,LAMBDA(n,f(n)))"}, 0, "f", "LET(a,1,LAMBDA(n,(#NAME?)(n)))"},
		{[]string{"f: =-LAMBDA(n,f)"}, 0, "f", "-LAMBDA(n,#NAME?)"},
		{[]string{"0 f: =LAMBDA(n,f(n))", "f: =LAMBDA(n,f(n)+1)"}, 0, "f(1)", "LET(f,LAMBDA(n,F(n)),f)(1)"},
		{[]string{"0 f: =LAMBDA(n,f(n))", "f: =LAMBDA(n,f(n)+1)"}, 1, "f(1)", "LET(f,LAMBDA(n,F(n)+1),f)(1)"},
		{[]string{"0 sum: =LAMBDA(n,total(n))", "total: =LAMBDA(m,SUM(m,1))"}, 0, "sum", "LET(sum,LAMBDA(n,LAMBDA(m,SUM(m,1))(n)),sum)"},
		{[]string{"0 m: =LAMBDA(n,total(n))", "total: =LAMBDA(m,m)"}, 0, "m", "LAMBDA(n,LAMBDA(m,m)(n))"},
		{[]string{"0 sum: =LAMBDA(n,total)", "total: =LAMBDA(m,LAMBDA(Sum,SUM(m,1)))"}, 0, "sum", "LAMBDA(n,LAMBDA(m,LAMBDA(Sum,SUM(m,1))))"},
		{[]string{"f: =LAMBDA(n,f(n))", "g: =LAMBDA(f(1)+f(2))"}, 0, "g()", "LAMBDA(LET(f,LAMBDA(n,F(n)),f)(1)+LET(f,LAMBDA(n,F(n)),f)(2))()"},
	})
}

// P10.2: columns of tables.
func TestColumns(t *testing.T) {
	some := []string{"p: =T[price]", "1 q: =T[price]", "T.x: =1"}
	checkAll(t, []want{
		{some, 1, "T[Price]", "B4:B6"},
		{some, 0, "SUM(t[PRICE])", "SUM('Two x'!B4:B6)"},
		{some, 2, "T[b c]+1", "'Two x'!C4:C6+1"},
		{some, 0, "one[a]", "AZ200:AZ200"},
		{some, 1, "ONE[A]", "S!AZ200:AZ200"},
		{some, 0, "T[none]", "#NAME?"},
		{some, 0, "T[bc]", "#NAME?"},
		{some, 0, "T[ Price]", "#NAME?"},
		{some, 0, "U[Price]", "#NAME?"},
		{some, 0, "one[Price]&T[a]", "#NAME?&#NAME?"},
		{some, 0, "p", "'Two x'!B4:B6"},
		{some, 1, "p", "'Two x'!B4:B6"},
		{some, 1, "q", "B4:B6"},
		{some, 1, "LET(T,1,T[Price])", "LET(T,1,B4:B6)"},
		{some, 1, "(T[Price])(T)", "(B4:B6)(#NAME?)"},
	})
}

// P10.1: of what is wrong the first is told.
func TestExpandErrors(t *testing.T) {
	bad := sheets("x: =A1")
	for i, c := range []struct {
		b     api.Book
		sheet int
		n     api.Node
		err   api.Errno
	}{
		{bad, -1, api.Node{}, api.ErrName}, {api.Book{}, 0, api.Node{}, api.ErrLimit}, {bad, 0, read(t, "1"), api.ErrName},
		{sheets(), -1, api.Node{}, api.ErrArg}, {sheets(), 3, read(t, "1"), api.ErrArg}, {sheets(), math.MinInt, read(t, "1"), api.ErrArg}, {sheets(), math.MaxInt, read(t, "1"), api.ErrArg}, {sheets(), 7, api.Node{}, api.ErrArg},
		{sheets(), 2, api.Node{}, api.ErrTree}, {sheets(), 0, api.Node{Kind: api.NName, S: "A1"}, api.ErrTree}, {sheets(), 0, api.Node{Kind: api.NCol, S: "T["}, api.ErrTree}, {sheets(), 0, api.Node{Kind: api.NCall, S: "sum"}, api.ErrTree},
	} {
		if n, err := names.Expand(c.b, c.sheet, c.n); !tree.Same(n, api.Node{}) || err != c.err {
			t.Errorf("case %d: %s, error %d; want error %d", i, print(n), err, c.err)
		}
	}
}

// tower is a formula that is so deep.
func tower(deep int) string {
	return strings.Repeat("-", deep-1) + "1"
}

// wide is a call of so many nodes, the last ones of which are as told.
func wide(nodes int, last ...string) api.Node {
	n := api.Node{Kind: api.NCall, S: "SUM"}
	for range nodes - 1 - len(last) {
		n.Kids = append(n.Kids, api.Node{Kind: api.NTruth})
	}
	for _, s := range last {
		kid, _, _ := tree.Read(s)
		n.Kids = append(n.Kids, kid)
	}
	return n
}

// P10.1: what is too deep, or too much, is told, however much it would be.
func TestTooMuch(t *testing.T) {
	many := []string{"n.0: =1"}
	for i := range 39 {
		s := strconv.Itoa(i)
		many = append(many, "n."+strconv.Itoa(i+1)+": =n."+s+"+n."+s)
	}
	chain := []string{"c.0: =1"}
	for i := range 39 {
		chain = append(chain, "c."+strconv.Itoa(i+1)+": =c."+strconv.Itoa(i))
	}
	deep := []string{"d: =" + tower(10), "f: =LAMBDA(n,f(n))", "g: =LAMBDA(n,n)", "two: =1+1"}
	for _, c := range []struct {
		names []string
		n     api.Node
		err   api.Errno
	}{
		{many, read(t, "n.7"), api.ErrDeep}, {many, read(t, "n.39"), api.ErrDeep}, {many, read(t, "n.6"), api.OK}, {many, read(t, "n.39(n.39)"), api.ErrDeep},
		{chain, read(t, "c.39"), api.OK},
		{deep, read(t, strings.Repeat("-", 10)+"d"), api.OK}, {deep, read(t, strings.Repeat("-", 11)+"d"), api.ErrDeep},
		{deep, wide(200), api.OK}, {deep, wide(198, "two"), api.OK}, {deep, wide(199, "two"), api.ErrDeep}, {deep, wide(200, "two"), api.ErrDeep},
		{deep, wide(195, "f"), api.OK}, {deep, wide(196, "f"), api.OK}, {deep, wide(197, "f"), api.ErrDeep}, {deep, wide(197, "g(1)"), api.OK}, {deep, wide(198, "g(1)"), api.ErrDeep}, {deep, wide(200, "x"), api.OK}, {deep, wide(200, "T[a]"), api.OK}, {deep, wide(200, "T[price]"), api.OK},
		{deep, wide(198, "g"), api.OK}, {deep, wide(199, "g"), api.OK}, {deep, wide(200, "g"), api.ErrDeep},
	} {
		b := sheets(c.names...)
		n, err := names.Expand(b, 0, c.n)
		if err != c.err || tree.Same(n, api.Node{}) != (err != api.OK) || err == api.OK && !tree.Right(n) {
			t.Errorf("%.40s: error %d; want %d", print(c.n), err, c.err)
		}
	}
	b := sheets(many...)
	b.Sheets[1].Cells = []api.Cell{{Input: "=n.39"}, {Col: 1, Input: "=n.6"}}
	if n, ok, err := names.Formula(b, api.At{Sheet: 1}); !tree.Same(n, api.Node{}) || ok || err != api.ErrDeep {
		t.Errorf("Formula: %s, %v, error %d", print(n), ok, err)
	}
	if n, ok, err := names.Formula(b, api.At{Sheet: 1, Col: 1}); print(n) == "none" || !ok || err != api.OK {
		t.Errorf("Formula: %s, %v, error %d", print(n), ok, err)
	}
}

// P10.3: a cell's formula, or none.
func TestFormula(t *testing.T) {
	b := sheets("x: =7")
	b.Sheets[0].Cells = []api.Cell{{Input: "= X + 1 "}, {Col: 1, Input: "x"}, {Col: 2, Input: "'=x"}, {Col: 3, Input: "12"}}
	for col, want := range []string{"7+1", "", "", "", ""} {
		n, ok, err := names.Formula(b, api.At{Col: col})
		if ok != (want != "") || ok && print(n) != want || !ok && !tree.Same(n, api.Node{}) || err != api.OK {
			t.Errorf("Formula of column %d: %s, %v, error %d; want %q", col, print(n), ok, err, want)
		}
	}
	bad := sheets("x: =A1")
	for _, n := range []int{-1, 200, math.MinInt, math.MaxInt} {
		for _, at := range []api.At{{Sheet: n}, {Row: n}, {Col: n}, {Sheet: 3}, {Col: 52}} {
			if n, ok, err := names.Formula(b, at); !tree.Same(n, api.Node{}) || ok || err != api.ErrArg {
				t.Errorf("Formula of %+v: %s, %v, error %d", at, print(n), ok, err)
			}
			if n, ok, err := names.Formula(bad, at); !tree.Same(n, api.Node{}) || ok || err != api.ErrName {
				t.Errorf("Formula of %+v: %s, %v, error %d; want ErrName", at, print(n), ok, err)
			}
		}
	}
}

func free(n api.Node, local []string) bool {
	folded := strings.ToLower(n.S)
	if n.Kind == api.NCol || n.Kind == api.NName && !slices.Contains(local, folded) {
		return true
	}
	list := strings.Split(folded, ",")
	for i, kid := range n.Kids {
		within := slices.Clone(local)
		switch n.Kind {
		case api.NFunc:
			within = append(within, list...)
		case api.NLet:
			within = append(within, list[:min(i, len(list))]...)
			if i < len(list) && kid.Kind == api.NFunc {
				within = append(within, list[i])
			}
		}
		if free(kid, within) {
			return true
		}
	}
	return false
}

// dice are numbers that look like chance, and are the same in each run.
type dice uint64

func (d *dice) below(n int) int {
	*d = *d*6364136223846793005 + 1442695040888963407
	return int(uint64(*d)>>33) % n
}

// some is a formula of a few names, local ones too.
func (d *dice) some(deep int, called []string) string {
	one := func() string { return called[d.below(len(called))] }
	kid := func() string { return d.some(deep-1, called) }
	if deep == 0 {
		return []string{one(), one(), "1", "S!A1", "T[price]", "T[x]"}[d.below(6)]
	}
	switch d.below(8) {
	case 0:
		return "LAMBDA(" + one() + "," + kid() + ")"
	case 1:
		return "LET(" + one() + "," + kid() + "," + kid() + ")"
	case 2:
		return one() + "(" + kid() + ")"
	case 3:
		return "SUM(" + kid() + "," + kid() + ")"
	case 4:
		return "LET(" + one() + ",LAMBDA(" + one() + "," + kid() + ")," + kid() + ")"
	case 5:
		return "(" + kid() + ")(" + kid() + ")"
	}
	return kid() + "+" + kid()
}

// P10.4: what is expanded has no names but local ones, and no columns; it is expanded again as it is, and other names make no difference to it.
func TestWhatFollows(t *testing.T) {
	d, told := dice(5), 0
	called := []string{"x", "y", "f", "G", "h"}
	for range 20000 {
		var list []string
		for _, s := range []string{"X", "f", "g"} {
			list = append(list, s+": ="+d.some(d.below(3), called))
		}
		b := sheets(list...)
		formula := d.some(d.below(4), called)
		n, _, err := tree.Read(formula)
		if _, wrong := book.Check(b); wrong != api.OK || err != api.OK {
			continue
		}
		whole, err := names.Expand(b, 0, n)
		if err != api.OK {
			continue
		}
		told++
		if free(whole, nil) {
			t.Fatalf("%q: %s: %s", list, formula, print(whole))
		}
		again, err := names.Expand(b, 0, whole)
		if !tree.Same(again, whole) || err != api.OK {
			t.Fatalf("%q: %s: %s, again %s, error %d", list, formula, print(whole), print(again), err)
		}
		b.Names = append(b.Names, api.Name{Name: "more", Sheet: 0, Input: "=1"}, api.Name{Name: "S", Sheet: -1, Input: "=2"}, api.Name{Name: "x", Sheet: 1, Input: "=3"})
		if same, err := names.Expand(b, 0, n); !tree.Same(same, whole) || err != api.OK {
			t.Fatalf("%q: %s: with more names %s, error %d", list, formula, print(same), err)
		}
		if bare, err := names.Expand(sheets(), 2, whole); !tree.Same(bare, whole) || err != api.OK {
			t.Fatalf("%s without names: %s, error %d", print(whole), print(bare), err)
		}
	}
	if told < 5000 {
		t.Errorf("only %d formulas were expanded", told)
	}
}
