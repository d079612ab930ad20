package code_test

import (
	"strings"
	"testing"

	"tabula/api"
	"tabula/code"
	"tabula/tree"
)

func read(t *testing.T, s string) api.Node {
	t.Helper()
	n, at, err := tree.Read(s)
	if err != api.OK {
		t.Fatalf("Read(%q): error %d at %d", s, err, at)
	}
	return n
}

func compile(t *testing.T, s string) api.Code {
	t.Helper()
	c, err := code.Compile(read(t, s))
	if err != api.OK {
		t.Fatalf("Compile of %s: error %d", s, err)
	}
	return c
}

// lines are a code's text on one line: instructions parted by semicolons, blocks by bars, without the first block's head.
func lines(t *testing.T, c api.Code) string {
	t.Helper()
	s, err := code.Text(c)
	if err != api.OK {
		t.Fatalf("Text of %+v: error %d", c, err)
	}
	s = strings.ReplaceAll(strings.TrimPrefix(s, "block 0 ()\n  "), "\nblock ", " | ")
	return strings.TrimSuffix(strings.ReplaceAll(s, "\n  ", "; "), "\n")
}

// P6.2, P6.3: formulas, and their code.
func TestCompile(t *testing.T) {
	for s, want := range map[string]string{
		"1.5": "num 1.5", `"a ""b"`: `text a "b`, `""`: "text ", "TRUE": "truth 1", "FALSE": "truth 0", "#N/A": "fault 7", "#NULL!": "fault 1", "A1": "ref A1", "'It''s'!$B2": "ref 'It''s'!$B2", "#REF!": "ref #REF!", "S!A1:B$2": "range S!A1 B$2", "x": "fault 5", "T[a]": "fault 5",
		"1+2*3": "num 1; num 2; num 3; op *; op +", "(1+2)*3": "num 1; num 2; op +; num 3; op *", "1<>A1": "num 1; ref A1; op <>", "-5%": "num 5; ahead -; back %", "+x": "fault 5; ahead +", "-(5%)": "num 5; back %; ahead -",
		"sum()": "call SUM 0", "sum(1,A1:A2)": "num 1; range A1 A2; call SUM 2", "if()": "call IF 0", "if(1)": "num 1; call IF 1", "if(1,2,3,4)": "num 1; num 2; num 3; num 4; call IF 4", "x(1)": "num 1; call X 1",
		"IF(A1,2)": "ref A1; unless 2 3; num 2; go 1; truth 0", "IF(A1,2+3,4+5+6)": "ref A1; unless 4 9; num 2; num 3; op +; go 5; num 4; num 5; op +; num 6; op +", "IF(1,IF(2,3),4)": "num 1; unless 6 7; num 2; unless 2 3; num 3; go 1; truth 0; go 1; num 4", "IF(IF(1,2,3),4,IF(5,6,7))": "num 1; unless 2 3; num 2; go 1; num 3; unless 2 7; num 4; go 5; num 5; unless 2 3; num 6; go 1; num 7",
		"{1,-2;\"a\",#N/A}": "num 1; num 2; ahead -; text a; fault 7; array 2 2", "{1;2;3}": "num 1; num 2; num 3; array 3 1", "{1,2,3}": "num 1; num 2; num 3; array 1 3",
		"LET(x,1,x+x)": "num 1; keep x; get x; get x; op +; forget 1", "LET(x,x,x)": "fault 5; keep x; get x; forget 1", "LET(x,1,Y,x+y,X*Y)": "num 1; keep x; get x; fault 5; op +; keep Y; get x; get Y; op *; forget 2", "LET(x,1,LET(X,x+1,x)+x)": "num 1; keep x; get x; num 1; op +; keep X; get X; forget 1; get x; op +; forget 1", "LET(x,1,2)+x": "num 1; keep x; num 2; forget 1; fault 5; op +", "F(LET(x,1,x),x)": "num 1; keep x; get x; forget 1; fault 5; call F 2",
		"LET(f,1,f(2))": "num 1; keep f; get f; num 2; apply 1; forget 1", "LET(if,1,IF(2,3,4))": "num 1; keep if; get if; num 2; num 3; num 4; apply 3; forget 1", "LET(Sum,1,sum())": "num 1; keep Sum; get Sum; apply 0; forget 1",
		"LAMBDA(1)": "func 1  | 1 (); num 1", "LAMBDA(x,y,x-Y)": "func 1  | 1 (x,y); get x; get y; op -", "LAMBDA(x,x)(5)": "func 1 ; num 5; apply 1 | 1 (x); get x", "F(1)(2,3)": "num 1; call F 1; num 2; num 3; apply 2", "(x)()": "fault 5; apply 0",
		"LAMBDA(x,LAMBDA(y,x+y))+LAMBDA(z,z)":                    "func 1 ; func 3 ; op + | 1 (x); func 2 x | 2 (y); get x; get y; op + | 3 (z); get z",
		"LET(f,LAMBDA(n,IF(n<2,1,n*f(n-1))),f(5))":               "func 1 ;f; keep f; get f; num 5; apply 1; forget 1 | 1 (n); get n; num 2; op <; unless 2 9; num 1; go 7; get n; get f; get n; num 1; op -; apply 1; op *",
		"LET(a,1,b,2,LAMBDA(x,a+b+x))":                           "num 1; keep a; num 2; keep b; func 1 a,b; forget 2 | 1 (x); get a; get b; op +; get x; op +",
		"LET(a,1,LET(b,2,A,3,LAMBDA(b,a+b)))":                    "num 1; keep a; num 2; keep b; num 3; keep A; func 1 b,A; forget 2; forget 1 | 1 (b); get A; get b; op +",
		"LET(a,1,F,LAMBDA(x,f(a)),g,LAMBDA(f(1)),2)":             "num 1; keep a; func 1 a;F; keep F; func 2 a,F;g; keep g; num 2; forget 3 | 1 (x); get F; get a; apply 1 | 2 (); get F; num 1; apply 1",
		"LET(f,1,LET(F,LAMBDA(x,f(x)),2))":                       "num 1; keep f; func 1 ;F; keep F; num 2; forget 1; forget 1 | 1 (x); get F; get x; apply 1",
		"LET(f,1,g,2,LET(F,LAMBDA(x,LAMBDA(f(g))),2))":           "num 1; keep f; num 2; keep g; func 1 g;F; keep F; num 2; forget 1; forget 2 | 1 (x); func 2 g,F,x | 2 (); get F; get g; apply 1",
		"LET(f,(LAMBDA(f(1))),f)":                                "func 1 ;f; keep f; get f; forget 1 | 1 (); get f; num 1; apply 1",
		"LET(f,-LAMBDA(f(1)),f)":                                 "func 1 ; ahead -; keep f; get f; forget 1 | 1 (); num 1; call F 1",
		"LET(x,1,LAMBDA(X,LAMBDA(x)))":                           "num 1; keep x; func 1 x; forget 1 | 1 (X); func 2 X | 2 (); get X",
		"LET(f,LAMBDA(F,f(1)),f(2))":                             "func 1 ;f; keep f; get f; num 2; apply 1; forget 1 | 1 (F); get F; num 1; apply 1",
		"LAMBDA(if,IF(1,2,3))":                                   "func 1  | 1 (if); get if; num 1; num 2; num 3; apply 3",
		"LET(x,LET(y,1,LAMBDA(y)),y)":                            "num 1; keep y; func 1 y; forget 1; keep x; fault 5; forget 1 | 1 (); get y",
		"LET(x,1,y,LAMBDA(LET(z,2,w,LAMBDA(x+z),w(0))),y()+x())": "num 1; keep x; func 1 x;y; keep y; get y; apply 0; get x; apply 0; op +; forget 2 | 1 (); num 2; keep z; func 2 x,y,z;w; keep w; get w; num 0; apply 1; forget 2 | 2 (); get x; get z; op +",
	} {
		c, err := code.Compile(read(t, s))
		if err != api.OK {
			t.Errorf("Compile of %s: error %d", s, err)
			continue
		}
		if got := lines(t, c); got != want {
			t.Errorf("Compile of %s:\n%s; want\n%s", s, got, want)
		}
	}
}

// P6.2: trees that are not right, and code that is too much.
func TestCompileWrong(t *testing.T) {
	one := api.Node{Kind: api.NNum, N: api.Dec{M: 1}}
	deep := one
	for range 20 {
		deep = api.Node{Kind: api.NAhead, S: "-", Kids: []api.Node{deep}}
	}
	for i, n := range []api.Node{{}, {Kind: 17}, {Kind: -1}, {Kind: api.NNum, N: api.Dec{M: -1}}, {Kind: api.NOp, S: "+", Kids: []api.Node{one}}, {Kind: api.NCall, S: "if", Kids: []api.Node{one, one}}, {Kind: api.NArray, Rows: 2, Kids: []api.Node{one}}, {Kind: api.NLet, S: "x", Kids: []api.Node{one}}, {Kind: api.NApply}, {Kind: api.NCall, S: "F", Kids: []api.Node{{}}}, deep} {
		if c, err := code.Compile(n); !code.Same(c, api.Code{}) || err != api.ErrTree {
			t.Errorf("Compile of wrong tree %d: %+v, error %d; want ErrTree", i, c, err)
		}
	}
	function := func(kids ...api.Node) api.Node { return api.Node{Kind: api.NFunc, Kids: kids} }
	call := func(kids ...api.Node) api.Node { return api.Node{Kind: api.NCall, S: "F", Kids: kids} }
	names := func(n int) string {
		var list []string
		for i := range n {
			list = append(list, "n_"+strings.Repeat("x", i/26)+string(rune('a'+i%26)))
		}
		return strings.Join(list, ",")
	}
	many := func(n int, kid api.Node) []api.Node {
		var list []api.Node
		for range n {
			list = append(list, kid)
		}
		return list
	}
	let := func(n int, last api.Node) api.Node {
		return api.Node{Kind: api.NLet, S: names(n), Kids: append(many(n, one), last)}
	}
	params := func(n int) api.Node { return api.Node{Kind: api.NFunc, S: names(n), Kids: []api.Node{one}} }
	for name, c := range map[string]struct {
		n  api.Node
		ok bool
	}{
		"20 blocks": {call(many(19, function(one))...), true}, "21 blocks": {call(many(20, function(one))...), false},
		"40 names held": {let(40, function(one)), true}, "41 names held": {let(41, function(one)), false},
		"400 parameters": {params(400), true}, "401 parameters": {params(401), false},
		"41 names and no function": {let(41, one), true}, "198 names": {let(198, one), true},
	} {
		got, err := code.Compile(c.n)
		if c.ok != (err == api.OK) || c.ok != code.Right(got) || !c.ok && (err != api.ErrCode || !code.Same(got, api.Code{})) {
			t.Errorf("Compile of %s: error %d", name, err)
		}
	}
}

// P6.2: what is handed in is left as it is, and what comes out is new memory.
func TestCompileMemory(t *testing.T) {
	n := read(t, "LET(a,1,f,LAMBDA(x,IF(x,a,f(x-1))),f(2)+LAMBDA(a)())")
	before, _ := tree.Print(n)
	c, _ := code.Compile(n)
	d, _ := code.Compile(n)
	want := lines(t, d)
	for i := range c.Blocks {
		_ = append(c.Blocks[i], api.Ins{Op: 99})
	}
	if lines(t, c) != want {
		t.Error("blocks of one code share room")
	}
	for _, block := range c.Blocks {
		for i := range block[:cap(block)] {
			block[:cap(block)][i] = api.Ins{Op: 99}
		}
	}
	for i := range c.Params[:cap(c.Params)] {
		c.Params[:cap(c.Params)][i] = "scratched"
	}
	if after, _ := tree.Print(n); after != before || lines(t, d) != want {
		t.Error("Compile shares memory")
	}
}

// P6.5: what is compiled is right, and trees that are the same have the same code; other names change names alone.
func TestNames(t *testing.T) {
	for _, s := range []string{"LET(aa,1,bb,LAMBDA(cc,IF(cc,aa,bb(cc-1))),bb(2)+LAMBDA(dd,aa+dd)(3))", "LAMBDA(aa,LAMBDA(bb,aa(bb)))(1)(2)", "LET(aa,LAMBDA(bb,LET(cc,bb,LAMBDA(dd,aa(cc+dd)))),aa)", "LET(aa,1,LET(AA,2,LAMBDA(bb,aa+Bb)))"} {
		c := compile(t, s)
		if again := compile(t, s); !code.Same(c, again) || !code.Right(c) {
			t.Errorf("%s is compiled otherwise the second time", s)
		}
		want, _ := code.Text(c)
		to := strings.NewReplacer("aa", "x.1", "bb", "y_", "cc", "sum", "dd", "zzz", "AA", "X.1", "Bb", "Y_")
		other, _ := code.Text(compile(t, to.Replace(s)))
		if to.Replace(want) != other {
			t.Errorf("%s with other names:\n%s; want\n%s", s, other, to.Replace(want))
		}
	}
}
