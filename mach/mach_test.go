package mach_test

import (
	"math"
	"slices"
	"strings"
	"testing"

	"tabula/api"
	"tabula/code"
	"tabula/mach"
	"tabula/val"
)

// P8.1: constants, and what is read.
func TestReads(t *testing.T) {
	f := frame(t, "A1:1|B1:2|C1:'x|A2:true|C3:#N/A|'Two x'!A1:10|'TWO X'!A1:20|Third!A1:30|Third!B2:'y|AZ200:9")
	checks(t, f, `
		1.5 => 1.5
		"a b" => a b
		TRUE => TRUE
		#N/A => #N/A
		{1,-2;"x",TRUE} => {1,-2;"x",TRUE}
		x => #NAME?
		T[a] => #NAME?
		A1 => 1 @ 0!A1
		$a$1 => 1 @ 0!A1
		D9 =>  @ 0!D9
		C3 => #N/A @ 0!C3
		AZ200 => 9 @ 0!AZ200
		main!A1 => 1 @ 0!A1
		third!A1 => 30 @ 3!A1
		'two X'!A1 => 10 @ 1!A1
		None!A1 => #REF!
		#REF! => #REF!
		A1:B2 => {1,2;TRUE,} @ 0!A1:B2
		B2:A1 => {1,2;TRUE,} @ 0!A1:B2
		B1:A2 => {1,2;TRUE,} @ 0!A1:B2
		A1:C1 => {1,2,"x"} @ 0!A1:C1
		A1:A3 => {1;TRUE;} @ 0!A1:A3
		A1:A1 => 1 @ 0!A1
		Third!A1:B2 => {30,;,"y"} @ 3!A1:B2
		None!A1:B2 => #REF!
		SUM(Third!A1:T20) => 30 @ 3!A1:T20
		SUM(A1:A200,B1:B200) => 3 @ 0!A1:A200 0!B1:B200
		A1:U20 => #NUM! @ 0!A1:U20
		A1:AZ200 => #NUM! @ 0!A1:AZ200
		ROWS(A1:T20) => 20 @ 0!A1:T20
		A1+B1+A1 => 4 @ 0!A1 0!B1
		B1+A1+B1:B1 => 5 @ 0!B1 0!A1
		A1:B1+B1:A1+A1 => {3,5} @ 0!A1:B1 0!A1
		A1+Main!A1+Third!A1 => 32 @ 0!A1 3!A1
		#REF!+A1 => #REF! @ 0!A1
		NOW()+A1 => 46 @ 0!A1
		IF(A1,B1,C1) => 2 @ 0!A1 0!B1
		IF(A9,B1,C1) => x @ 0!A9 0!C1
		IF(A9,B1) => FALSE @ 0!A9
		IF(C1,A1,B1) => #VALUE! @ 0!C1
		IF(C3,A1,B1) => #N/A @ 0!C3
		IF(A1:B1,A1,B1) => #VALUE! @ 0!A1:B1
		IF({TRUE},A1,B1) => #VALUE!
		IF("true",A1,B1) => 1 @ 0!A1
		IF(LAMBDA(1),A1,B1) => #VALUE!
		IF(#DIV/0!,A1,B1)+A1 => #DIV/0! @ 0!A1
		IF(1,IF(0,A1,B1),C1) => 2 @ 0!B1
		IFERROR(C3,A1) => 1 @ 0!C3 0!A1
		LET(x,A1,y,B1,x+x+y) => 4 @ 0!A1 0!B1
	`)
	f.Sheet = 3
	checks(t, f, `
		A1 => 30 @ 3!A1
		Main!A1 => 1 @ 0!A1
		Third!A1+A1 => 60 @ 3!A1
		A1:B2 => {30,;,"y"} @ 3!A1:B2
	`)
	f.Sheets = []string{"é\xff", "S"}
	f.Sheet, f.Vals = 1, f.Vals[:1]
	checks(t, f, `
		A1 =>  @ 1!A1
		S!A1 =>  @ 1!A1
		'É'!A1 => #REF!
	`)
}

// P8.1: operators, one by one.
func TestOperators(t *testing.T) {
	most := strings.Repeat("z", 150)
	f := frame(t, "A1:999999999999999000000000|B1:-999999999999999000000000|C1:'"+most+"|D1:'"+most[:50]+"|E1:'"+most[:51]+"|F1:'|G1:0")
	checks(t, f, `
		1+2*3 => 7
		ISERROR(C1&E1) => TRUE @ 0!C1 0!E1
		(C1&E1)="" => #VALUE! @ 0!C1 0!E1
		-2^2 => 4
		2^3^2 => 64
		50% => 0.5
		1/3 => 0.333333333
		2/3 => 0.666666667
		1/0 => #DIV/0!
		0/0 => #DIV/0!
		1-"3" => -2
		"x"+1 => #VALUE!
		"x"+#N/A => #N/A
		#N/A+"x" => #N/A
		"x"+"y" => #VALUE!
		#N/A+#NUM! => #N/A
		TRUE+TRUE => 2
		Z9+1 => 1 @ 0!Z9
		A1+A1 => #NUM! @ 0!A1
		A1*A1 => #NUM! @ 0!A1
		B1-A1 => #NUM! @ 0!B1 0!A1
		A1/0.1 => #NUM! @ 0!A1
		A1/0 => #DIV/0! @ 0!A1
		999999999999999+0.5 => 1000000000000000
		0.000000005*0.5 => 0.000000002
		2^-1 => 0.5
		0^-1 => #DIV/0!
		0^0 => 1
		2^0.5 => #NUM!
		1^100 => 1
		1^-100 => 1
		1^101 => #NUM!
		1^-101 => #NUM!
		1^A1 => #NUM! @ 0!A1
		10^24 => #NUM!
		"2"^TRUE => 2
		"x"^0.5 => #VALUE!
		-"2" => -2
		+"2" => 2
		+TRUE => 1
		-Z9 => 0 @ 0!Z9
		-"x" => #VALUE!
		-#N/A => #N/A
		-A1 => -999999999999999000000000 @ 0!A1
		"50"% => 0.5
		0.000000005% => 0
		0.0000005% => 0.000000005
		TRUE% => 0.01
		#NUM!% => #NUM!
		"x"% => #VALUE!
		1&2 => '12
		"a"&TRUE&Z9&1.50 => aTRUE1.5 @ 0!Z9
		#N/A&"x" => #N/A
		"x"&#N/A => #N/A
		LEN(C1&D1) => 200 @ 0!C1 0!D1
		C1&E1 => #VALUE! @ 0!C1 0!E1
		1=1 => TRUE
		1="1" => FALSE
		"a"="A" => TRUE
		"a"<"B" => TRUE
		9<"" => TRUE
		"z"<FALSE => TRUE
		FALSE<TRUE => TRUE
		TRUE>9 => TRUE
		1<>2 => TRUE
		1<>1 => FALSE
		1<1 => FALSE
		1<=1 => TRUE
		1<=2 => TRUE
		2<=1 => FALSE
		1>1 => FALSE
		1>=1 => TRUE
		2>=1 => TRUE
		1>=2 => FALSE
		2>1 => TRUE
		10>9 => TRUE
		"10">"9" => FALSE
		1=#N/A => #N/A
		#NUM!=#N/A => #NUM!
		#N/A=#N/A => #N/A
		Z9=0 => TRUE @ 0!Z9
		Z9="" => TRUE @ 0!Z9
		Z9=FALSE => TRUE @ 0!Z9
		0=Z9 => TRUE @ 0!Z9
		Z9<1 => TRUE @ 0!Z9
		Z9>-1 => TRUE @ 0!Z9
		Z9<"a" => TRUE @ 0!Z9
		Z9<TRUE => TRUE @ 0!Z9
		Z9=Y9 => TRUE @ 0!Z9 0!Y9
		Z9<Y9 => FALSE @ 0!Z9 0!Y9
		Z9=F1 => TRUE @ 0!Z9 0!F1
		G1=F1 => FALSE @ 0!G1 0!F1
		{1,2}+{10;20} => {11,12;21,22}
		{1,2}+{1,2,3} => {2,4,#N/A}
		{1,2}+1 => {2,3}
		1-{1,2} => {0,-1}
		{1,2}={1,3} => {TRUE,FALSE}
		{1,"x"}&"y" => {"1y","xy"}
		{1,#N/A}+{#NUM!,#NUM!} => {#NUM!,#N/A}
		{1}+1 => {2}
		-{1,"x";TRUE,-2} => {-1,#VALUE!;-1,2}
		{1,50}% => {0.01,0.5}
		+{"1"} => {1}
		{2,3}^{2;0.5} => {4,9;#NUM!,#NUM!}
		{1,2}+LAMBDA(1) => {#VALUE!,#VALUE!}
		LAMBDA(1)+1 => #VALUE!
		#N/A+LAMBDA(1) => #N/A
		LAMBDA(1)+#N/A => #VALUE!
		LAMBDA(1)=LAMBDA(1) => #VALUE!
		LAMBDA(1)&"x" => #VALUE!
		-LAMBDA(1) => #VALUE!
		LAMBDA(1)% => #VALUE!
		SUM(SEQUENCE(20)*SEQUENCE(1,20)) => 44100
		SEQUENCE(20)*SEQUENCE(1,21) => #NUM!
		SEQUENCE(400)&SEQUENCE(1,2) => #NUM!
		A2:B3+1 => {1,1;1,1} @ 0!A2:B3
		A2:B3=A2:B3 => {TRUE,TRUE;TRUE,TRUE} @ 0!A2:B3
	`)
}

// P8.1: functions, names, and what functions hold.
func TestCalls(t *testing.T) {
	f := frame(t, "A1:1|B1:2|C1:'x|D1:#N/A")
	checks(t, f, `
		SUM(A1,B1,3) => 6 @ 0!A1 0!B1
		MID("héllo",2,3) => éll
		nofun(1) => #NAME?
		SUM() => #VALUE!
		NOW() => 45
		IF(1) => #VALUE!
		IF(1,2,3,4) => #VALUE!
		LET(x,1,x+x) => 2
		LET(x,1,y,x+1,X*Y) => 2
		LET(x,1,LET(x,x+1,x)+x) => 3
		LET(x,{1,2},SUM(x,x)) => 6
		LET(x,#N/A,1) => 1
		LAMBDA(x,y,x-y)(5,3) => 2
		LAMBDA(5)() => 5
		LAMBDA(x,x)() => #VALUE!
		LAMBDA(x,x)(1,2) => #VALUE!
		LAMBDA(5)(1) => #VALUE!
		(1)() => #VALUE!
		(1)(2) => #VALUE!
		(A1:B1)(1) => #VALUE! @ 0!A1:B1
		(#N/A)(1,2) => #N/A
		(D1)() => #N/A @ 0!D1
		(#N/A)(#NUM!) => #N/A
		LAMBDA(x,1)(#N/A) => 1
		LAMBDA(x,A1)(B1) => 1 @ 0!B1 0!A1
		LAMBDA(x,x)({1,2}) => {1,2}
		LAMBDA(x,LAMBDA(y,x-y))(5)(3) => 2
		LET(f,LAMBDA(n,IF(n<2,1,n*f(n-1))),f(5)) => 120
		LET(f,LAMBDA(n,IF(n<2,1,n*f(n-1))),f(17)) => 355687428096000
		LET(f,LAMBDA(n,IF(n<2,1,n*f(n-1))),f(40)) => #NUM!
		LET(f,LAMBDA(n,IF(n<1,0,1+f(n-1))),f(29)) => 29
		LET(f,LAMBDA(n,IF(n<1,0,1+f(n-1))),f(30)) => #NUM!
		LET(f,LAMBDA(n,IF(n<1,0,1+f(n-1))),IFERROR(f(30),"far")) => far
		LET(f,LAMBDA(n,IF(n<1,0,1+f(n-1))),f(29)+f(29)) => 58
		LET(f,LAMBDA(n,IF(n<2,n,f(n-1)+f(n-2))),f(10)) => 55
		LET(a,1,f,LAMBDA(x,x+a),LET(a,100,f(1))) => 2
		LET(a,1,f,LAMBDA(x,LET(a,x,a)),f(5)+a) => 6
		LET(f,LAMBDA(g,g(2)),f(LAMBDA(x,x*10))) => 20
		LET(f,LAMBDA(x,x),g,LAMBDA(x,f(x)+1),g(1)) => 2
		LET(a,1,LAMBDA(x,a)) => func 1 a [1]
		LET(a,1,b,{1,2},f,LAMBDA(x,a),f) => func 1 a,b;f [1 {1,2}]
		LET(a,1,f,LAMBDA(a),g,LAMBDA(f),g) => func 2 a,f;g [1 func 1 a;f [1]]
		LAMBDA(x,x) => func 1  []
		LAMBDA(x,y,LAMBDA(x))(1,2) => func 2 x,y [1 2]
		IF(TRUE,LAMBDA(1),2) => func 1  []
		CHOOSE(2,1,LAMBDA(7))() => 7
		TYPE(LAMBDA(1)) => 128
		IFERROR(LAMBDA(x,x+1),0)(4) => 5
		LET(if,LAMBDA(a,b,a+b),IF(1,2)) => 3
		LET(sum,LAMBDA(a,a*2),SUM(4)) => 8
		LET(x,1,x(2)) => #VALUE!
		LET(x,#NUM!,x(2)) => #NUM!
		LET(F,LAMBDA(x,f(x)),F(1)) => #NUM!
	`)
}

func ins(op int, a int, b int, s string) api.Ins { return api.Ins{Op: op, A: a, B: b, S: s} }

func one(n int) api.Ins { return api.Ins{Op: api.InNum, N: api.Dec{M: n}} }

// P8.1: code that no formula is made into.
func TestCode(t *testing.T) {
	f := frame(t, "A1:1|Third!B2:7")
	get := func(s string) api.Ins { return ins(api.InGet, 0, 0, s) }
	keep := func(s string) api.Ins { return ins(api.InKeep, 0, 0, s) }
	for name, g := range map[string]struct {
		params string
		blocks [][]api.Ins
		want   string
	}{
		"nothing":                        {"", [][]api.Ins{{{Op: api.InEmpty}}}, ""},
		"a truth":                        {"", [][]api.Ins{{ins(api.InTruth, 0, 0, "")}}, "FALSE"},
		"a number below 0":               {"", [][]api.Ins{{{Op: api.InNum, N: api.Dec{M: -5}}}}, "-5"},
		"the error VRef":                 {"", [][]api.Ins{{ins(api.InFault, 4, 0, "")}}, "#REF!"},
		"an unknown name":                {"", [][]api.Ins{{get("x")}}, "#NAME?"},
		"a name in other letters":        {"", [][]api.Ins{{one(1), keep("x"), get("X"), ins(api.InForget, 1, 0, "")}}, "#NAME?"},
		"the last one counts":            {"", [][]api.Ins{{one(1), keep("x"), one(2), keep("y"), one(3), keep("x"), get("x"), ins(api.InForget, 3, 0, "")}}, "3"},
		"forgotten, the one ahead":       {"", [][]api.Ins{{one(1), keep("x"), one(2), keep("x"), ins(api.InForget, 1, 0, ""), get("x"), ins(api.InForget, 1, 0, "")}}, "1"},
		"forgotten wholly":               {"", [][]api.Ins{{one(1), keep("x"), ins(api.InForget, 1, 0, ""), get("x")}}, "#NAME?"},
		"names kept in a call":           {"", [][]api.Ins{{one(1), keep("x"), ins(api.InFunc, 1, 0, ""), ins(api.InApply, 0, 0, ""), ins(api.InForget, 1, 0, "")}, {get("x")}}, "#NAME?"},
		"what is not kept is held":       {"", [][]api.Ins{{ins(api.InFunc, 1, 0, "x,y;f")}, {get("x")}}, "func 1 x,y;f [#NAME? #NAME?]"},
		"a name held twice":              {"", [][]api.Ins{{one(1), keep("x"), ins(api.InFunc, 1, 0, "x,x"), ins(api.InForget, 1, 0, "")}, {get("x")}}, "func 1 x,x [1 1]"},
		"what is held, then its own":     {"", [][]api.Ins{{one(1), keep("x"), ins(api.InFunc, 1, 0, "x;x"), ins(api.InApply, 0, 0, ""), ins(api.InForget, 1, 0, "")}, {get("x")}}, "func 1 x;x [1]"},
		"its own, then a parameter":      {"|x", [][]api.Ins{{ins(api.InFunc, 1, 0, ";x"), one(5), ins(api.InApply, 1, 0, "")}, {get("x")}}, "5"},
		"the last parameter":             {"|x,x", [][]api.Ins{{ins(api.InFunc, 1, 0, ""), one(5), one(6), ins(api.InApply, 2, 0, "")}, {get("x")}}, "6"},
		"what is held when it is made":   {"", [][]api.Ins{{one(1), keep("x"), ins(api.InFunc, 1, 0, "x"), one(2), keep("x"), ins(api.InApply, 0, 0, ""), ins(api.InForget, 2, 0, "")}, {get("x")}}, "1"},
		"an array of arrays":             {"", [][]api.Ins{{one(1), one(2), ins(api.InArray, 1, 2, ""), one(3), ins(api.InFunc, 1, 0, ""), ins(api.InArray, 1, 3, "")}, {one(1)}}, "{#VALUE!,3,#VALUE!}"},
		"an array of nothing":            {"", [][]api.Ins{{{Op: api.InEmpty}, {Op: api.InEmpty}, ins(api.InFault, 4, 0, ""), one(3), ins(api.InArray, 2, 2, "")}}, "{,;#REF!,3}"},
		"an array row by row":            {"", [][]api.Ins{{one(1), one(2), one(3), one(4), one(5), one(6), ins(api.InArray, 3, 2, "")}}, "{1,2;3,4;5,6}"},
		"a range to a sheet":             {"", [][]api.Ins{{{Op: api.InRange, Ref: api.Ref{Sheet: "THIRD", Row: 1, Col: 1}, To: api.Ref{Sheet: "None", Row: 1, Col: 1}}}}, "7"},
		"a range from a sheet":           {"", [][]api.Ins{{{Op: api.InRange, Ref: api.Ref{Sheet: "None"}, To: api.Ref{Sheet: "Main"}}}}, "#REF!"},
		"a range to what is gone":        {"", [][]api.Ins{{{Op: api.InRange, Ref: api.Ref{}, To: api.Ref{Bad: true}}}}, "#REF!"},
		"a range from what is gone":      {"", [][]api.Ins{{{Op: api.InRange, Ref: api.Ref{Bad: true}, To: api.Ref{}}}}, "#REF!"},
		"a function in small letters":    {"", [][]api.Ins{{one(4), ins(api.InCall, 1, 0, "sum")}}, "4"},
		"no function":                    {"", [][]api.Ins{{one(4), ins(api.InCall, 1, 0, "\xff")}}, "#NAME?"},
		"values in their order":          {"", [][]api.Ins{{one(4), one(2), ins(api.InCall, 2, 0, "QUOTIENT")}}, "2"},
		"a jump over nothing":            {"", [][]api.Ins{{one(4), ins(api.InGo, 0, 0, "")}}, "4"},
		"a jump over two":                {"", [][]api.Ins{{ins(api.InTruth, 0, 0, ""), ins(api.InUnless, 2, 3, ""), one(1), ins(api.InGo, 2, 0, ""), one(2), ins(api.InBack, 0, 0, "%")}}, "0.02"},
		"a true one goes on":             {"", [][]api.Ins{{ins(api.InTruth, 1, 0, ""), ins(api.InUnless, 2, 4, ""), one(1), ins(api.InGo, 2, 0, ""), one(2), ins(api.InBack, 0, 0, "%")}}, "1"},
		"an error goes further":          {"", [][]api.Ins{{ins(api.InFault, 2, 0, ""), ins(api.InUnless, 2, 4, ""), one(1), ins(api.InGo, 2, 0, ""), one(2), ins(api.InBack, 0, 0, "%")}}, "#DIV/0!"},
		"an error goes into the middle":  {"", [][]api.Ins{{ins(api.InFault, 2, 0, ""), ins(api.InUnless, 2, 3, ""), one(1), ins(api.InGo, 1, 0, ""), one(2), ins(api.InCall, 1, 0, "ISERROR")}}, "TRUE"},
		"a function of the third block":  {"||x", [][]api.Ins{{ins(api.InFunc, 2, 0, ""), one(3), ins(api.InApply, 1, 0, "")}, {one(1)}, {get("x"), get("x"), ins(api.InOp, 0, 0, "*")}}, "9"},
		"the same block with other held": {"", [][]api.Ins{{one(1), keep("x"), ins(api.InFunc, 1, 0, "x"), one(2), keep("x"), ins(api.InFunc, 1, 0, "x"), ins(api.InApply, 0, 0, ""), keep("y"), ins(api.InApply, 0, 0, ""), get("y"), ins(api.InOp, 0, 0, "-"), ins(api.InForget, 3, 0, "")}, {get("x")}}, "-1"},
	} {
		c := api.Code{Blocks: g.blocks, Params: make([]string, len(g.blocks))}
		copy(c.Params, strings.Split(g.params, "|"))
		v, _, err := mach.Run(c, f)
		if err != api.OK || told(v) != g.want {
			t.Errorf("%s: %s, error %d; want %s", name, told(v), err, g.want)
		}
		if v.Kind == api.Func && !code.Same(v.Code, c) {
			t.Errorf("%s: a function of another code: %+v", name, v.Code)
		}
	}
}

// P8.1: what is not right.
func TestWrong(t *testing.T) {
	right := frame(t, "A1:1|B1:2|A2:3|Third!A1:4")
	c := compiled(t, "A1")
	for name, do := range map[string]func(f *api.Frame){
		"no sheets":                  func(f *api.Frame) { f.Sheets = nil },
		"nine sheets":                func(f *api.Frame) { f.Sheets = strings.Split("a b c d e f g h i", " ") },
		"a sheet below 0":            func(f *api.Frame) { f.Sheet = -1 },
		"a sheet that there is not":  func(f *api.Frame) { f.Sheet = 4 },
		"a sheet far off":            func(f *api.Frame) { f.Sheet = math.MaxInt },
		"a time that is not right":   func(f *api.Frame) { f.Now = api.Dec{M: 10} },
		"a place on no sheet":        func(f *api.Frame) { f.Vals[3].At.Sheet = 4 },
		"a place on a sheet below 0": func(f *api.Frame) { f.Vals[0].At.Sheet = -1 },
		"a row below 0":              func(f *api.Frame) { f.Vals[0].At.Row = -1 },
		"a row too far":              func(f *api.Frame) { f.Vals[2].At.Row = 200 },
		"a column below 0":           func(f *api.Frame) { f.Vals[0].At.Col = -1 },
		"a column too far":           func(f *api.Frame) { f.Vals[1].At.Col = 52 },
		"a place twice":              func(f *api.Frame) { f.Vals[1].At = f.Vals[0].At },
		"columns not in order":       func(f *api.Frame) { f.Vals[0], f.Vals[1] = f.Vals[1], f.Vals[0] },
		"rows not in order":          func(f *api.Frame) { f.Vals[1], f.Vals[2] = f.Vals[2], f.Vals[1] },
		"sheets not in order":        func(f *api.Frame) { f.Vals[2], f.Vals[3] = f.Vals[3], f.Vals[2] },
		"an array":                   func(f *api.Frame) { f.Vals[1].V = array(1, 1, num(1, 0)) },
		"a function":                 func(f *api.Frame) { f.Vals[1].V = api.Val{Kind: api.Func, Code: c} },
		"a value that is not right":  func(f *api.Frame) { f.Vals[3].V = num(10, 0) },
		"a kind that there is not":   func(f *api.Frame) { f.Vals[3].V.Kind = 7 },
		"a text that is none":        func(f *api.Frame) { f.Vals[3].V = text("\xff") },
		"no frame":                   func(f *api.Frame) { *f = api.Frame{} },
	} {
		f := right
		f.Vals = slices.Clone(right.Vals)
		do(&f)
		if v, areas, err := mach.Run(c, f); !val.Same(v, api.Val{}) || len(areas) > 0 || err != api.ErrMach {
			t.Errorf("Run with %s: %+v, %v, error %d; want ErrMach", name, v, areas, err)
		}
		for i, wrong := range []api.Code{{}, {Blocks: [][]api.Ins{{}}, Params: []string{""}}, {Blocks: c.Blocks, Params: []string{"x"}}, {Blocks: [][]api.Ins{{{Op: 99}}}, Params: []string{""}}, {Blocks: [][]api.Ins{{one(1), one(2)}}, Params: []string{""}}} {
			for _, f := range []api.Frame{f, right} {
				if v, areas, err := mach.Run(wrong, f); !val.Same(v, api.Val{}) || len(areas) > 0 || err != api.ErrCode {
					t.Errorf("Run of wrong code %d with %s: %+v, %v, error %d; want ErrCode", i, name, v, areas, err)
				}
			}
		}
	}
	for name, do := range map[string]func(f *api.Frame){
		"one sheet":                   func(f *api.Frame) { f.Sheets, f.Vals = f.Sheets[:1], f.Vals[:3] },
		"eight sheets":                func(f *api.Frame) { f.Sheets = strings.Split("a b c d e f g h", " ") },
		"sheets of one name":          func(f *api.Frame) { f.Sheets = []string{"", "", "\xff", ""} },
		"nothing shown":               func(f *api.Frame) { f.Vals = nil },
		"an empty value":              func(f *api.Frame) { f.Vals[0].V = api.Val{} },
		"the last place of the sheet": func(f *api.Frame) { f.Vals[3].At = api.At{Sheet: 3, Row: 199, Col: 51} },
		"a time below 0":              func(f *api.Frame) { f.Now = api.Dec{M: -15, E: -1} },
	} {
		f := right
		f.Vals = slices.Clone(right.Vals)
		do(&f)
		if _, areas, err := mach.Run(c, f); len(areas) != 1 || err != api.OK {
			t.Errorf("Run with %s: %v, error %d", name, areas, err)
		}
	}
}

// P8.1: as many steps, calls and weights as there may be.
func TestLimits(t *testing.T) {
	f := frame(t, "A1:1")
	// The inner block has 150 instructions; the outer one calls it again and again, does some more, and reads a cell at its end.
	run := func(all int) (api.Val, []api.Area) {
		outer := []api.Ins{}
		steps := 0
		inner := append([]api.Ins{one(1)}, slices.Repeat([]api.Ins{ins(api.InAhead, 0, 0, "-")}, 149)...)
		for i := range 32 {
			outer = append(outer, ins(api.InFunc, 1, 0, ""), ins(api.InApply, 0, 0, ""))
			steps += 2 + 150
			if i > 0 {
				outer = append(outer, ins(api.InOp, 0, 0, "+"))
				steps++
			}
		}
		for steps < all-2 {
			outer = append(outer, ins(api.InAhead, 0, 0, "+"))
			steps++
		}
		outer = append(outer, api.Ins{Op: api.InRef}, ins(api.InOp, 0, 0, "&"))
		c := api.Code{Blocks: [][]api.Ins{outer, inner}, Params: []string{"", ""}}
		v, areas, err := mach.Run(c, f)
		if err != api.OK {
			t.Fatalf("Run of %d steps: error %d", all, err)
		}
		return v, areas
	}
	for _, c := range []struct {
		steps int
		want  string
		reads string
	}{{4990, "'-321", "0!A1"}, {4999, "'-321", "0!A1"}, {5000, "'-321", "0!A1"}, {5001, "#NUM!", "0!A1"}, {5002, "#NUM!", ""}, {5010, "#NUM!", ""}} {
		if v, areas := run(c.steps); told(v) != c.want || places(areas) != c.reads {
			t.Errorf("%d steps: %s, read %q; want %s, read %q", c.steps, told(v), places(areas), c.want, c.reads)
		}
	}
	checks(t, f, `
		LET(f,LAMBDA(n,IF(n<1,0,f(n-1)+f(n-1))),f(7)) => 0
		LET(f,LAMBDA(n,IF(n<1,0,f(n-1)+f(n-1))),f(8)) => #NUM!
		LET(f,LAMBDA(n,IF(n<1,0,f(n-1)+f(n-1))),IFERROR(f(8),1)) => #NUM!
		LET(f,LAMBDA(n,IF(n<1,A1,f(n-1)+f(n-1))),IFERROR(f(20),1)) => #NUM! @ 0!A1
		LET(f,LAMBDA(x,f(x)),f(1)) => #NUM!
		LET(f,LAMBDA(x,f(x)),IFERROR(f(1),5)) => 5
		LET(a,SEQUENCE(20,20),f,LAMBDA(x,SUM(a)+x),f(1)) => 80201
	`)
	for n := 37; n <= 40; n++ {
		let := api.Node{Kind: api.NLet}
		var names []string
		for i := range n {
			names = append(names, "x_"+strings.Repeat("y", i%20)+strings.Repeat("z", i/20))
			let.Kids = append(let.Kids, api.Node{Kind: api.NTruth})
		}
		let.S = strings.Join(names, ",")
		let.Kids = append(let.Kids, api.Node{Kind: api.NFunc, Kids: []api.Node{{Kind: api.NTruth}}})
		c, err := code.Compile(let)
		if err != api.OK {
			t.Fatalf("Compile of %d names: error %d", n, err)
		}
		v, _, err := mach.Run(c, f)
		if err != api.OK || (v.Kind == api.Func) != (n <= 39) || n > 39 && !val.Same(v, fault(6)) {
			t.Errorf("a function that holds %d: %s, error %d", n, told(v), err)
		}
	}
	// Two that weigh 19 and 1 more; a third one that holds both, and more.
	for n := range 5 {
		inner := api.Ins{Op: api.InFunc, A: 1, S: strings.Repeat("x,", 17) + "x"}
		outer := []api.Ins{one(1), ins(api.InKeep, 0, 0, "x"), inner, ins(api.InKeep, 0, 0, "f"), {Op: api.InFunc, A: 1, S: "f,f" + strings.Repeat(",x", n)}, ins(api.InForget, 2, 0, "")}
		v, _, err := mach.Run(api.Code{Blocks: [][]api.Ins{outer, {one(1)}}, Params: []string{"", ""}}, f)
		if err != api.OK || (v.Kind == api.Func) != (39+n <= 40) || 39+n > 40 && !val.Same(v, fault(6)) {
			t.Errorf("a function that weighs %d: %s, error %d", 39+n, told(v), err)
		}
	}
}
