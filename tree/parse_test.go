package tree_test

import (
	"strconv"
	"strings"
	"testing"

	"tabula/api"
	"tabula/lex"
	"tabula/tree"
)

// tokens are a formula's pieces.
func tokens(t *testing.T, s string) []api.Tok {
	t.Helper()
	l, _, err := lex.Tokens(s)
	if err != api.OK {
		t.Fatalf("Tokens(%q): error %d", s, err)
	}
	return l
}

func refused(t *testing.T, what string, n api.Node, at int, err api.Errno, wantAt int, want api.Errno) {
	t.Helper()
	if !tree.Same(n, api.Node{}) || at != wantAt || err != want {
		t.Errorf("%s: %s, %d, error %d; want %d, error %d", what, spelt(n), at, err, wantAt, want)
	}
}

// P5.3, P5.4: formulas, and how their trees are printed.
func TestParse(t *testing.T) {
	for s, want := range map[string]string{
		"sum(a1:B2)%": "SUM(A1:B2)%", "(1-2)-3": "1-2-3", "1-(2-3)": "1-(2-3)", "((((1))))": "1", "(1)+(2)": "1+2", "((1+2))*3": "(1+2)*3", "(-2)^2": "-2^2", "-(2)^2": "-2^2", "(5%)%": "5%%", "(-5)%": "-5%", "+-+1": "+-+1", "- 1": "-1",
		"2^3^2": "2^3^2", "(2^3)^2": "2^3^2", "1=2=3": "1=2=3", "1&2=3&4": "1&2=3&4", "1+2&3+4": "1+2&3+4", "1*2+3*4": "1*2+3*4", "2^3*4^5": "2^3*4^5", "1=2&3+4*5^6%": "1=2&3+4*5^6%", "6%^5*4+3&2=1": "6%^5*4+3&2=1",
		"true&FALSE": "TRUE&FALSE", "#n/a": "#N/A", "#ref!": "#REF!", "'S'!a1": "S!A1", "'S'!$a$1:b2": "S!$A$1:B2", "t[Price]+T[a]": "t[Price]+T[a]", "007.50": "7.5",
		"lambda(X,x+1)(2)": "LAMBDA(X,x+1)(2)", "LAMBDA(x)": "LAMBDA(x)", "LAMBDA((x))": "LAMBDA(x)", "LAMBDA(x,(y))": "LAMBDA(x,y)", "LAMBDA(x,y,z)": "LAMBDA(x,y,z)", "Let(a,1,B,a+1,B)": "LET(a,1,B,a+1,B)", "LET(a,b,c)": "LET(a,b,c)", "LET(a,b,c,d,a)": "LET(a,b,c,d,a)", "LET(a,LET(a,1,a),a)": "LET(a,LET(a,1,a),a)", "LAMBDA(x,LAMBDA(x,x))": "LAMBDA(x,LAMBDA(x,x))", "LET(a,LAMBDA(a,a),a)": "LET(a,LAMBDA(a,a),a)",
		"(F(1))(2)": "F(1)(2)", "((x))(2)": "(x)(2)", "(LAMBDA(x,x))(2)(3)": "LAMBDA(x,x)(2)(3)", "(A1)()": "(A1)()", "-F(1)(2)%": "-F(1)(2)%", "f()": "F()", "x.y(1)": "X.Y(1)", "a1(2)": "A1(2)", "true()": "TRUE()",
		`{ 1 , -2 ; "a" , true }`: `{1,-2;"a",TRUE}`, "{#n/a}": "{#N/A}", "{-0}": "{-0}",
	} {
		n, at, err := tree.Read(s)
		if got, _ := tree.Print(n); got != want || at != 0 || err != api.OK || !tree.Right(n) {
			t.Errorf("Read(%q): printed %q, %d, error %d; want %q", s, got, at, err, want)
		}
		m, at, err := tree.Parse(tokens(t, s))
		if !tree.Same(m, n) || at != 0 || err != api.OK {
			t.Errorf("Parse of %q: %s, %d, error %d", s, spelt(m), at, err)
		}
	}
	for want, n := range rights() {
		if len(want) > 200 {
			continue
		}
		if got, at, err := tree.Parse(tokens(t, want)); !tree.Same(got, n) || at != 0 || err != api.OK {
			t.Errorf("Parse of %q: %s, %d, error %d; want %s", want, spelt(got), at, err, spelt(n))
		}
	}
}

// P5.3, P5.4: the first piece that can't stand is behind the sign ‹.
func TestParseWrong(t *testing.T) {
	for _, marked := range strings.Split(`‹|1+‹|‹)|‹,1|(‹)|(1‹|1‹)|1‹ 2|1‹ x|x‹ (1)|A1‹ (1)|TRUE‹ (1)|1‹(2)|"a"‹(1)|T[a]‹(1)|{1}‹(2)|5%‹(1)|1‹,2|1‹;2|1‹:2|‹*1|1+‹*2|1-‹=|‹%|`+
		`A1:‹|A1:‹5|A1:‹x|A1:‹S!B2|A1:‹'S'!B2|A1:‹#REF!|#REF!‹:A1|A1:B2‹:C3|(A1)‹:B2|A1:‹(B2)|x‹:A1|1‹:A1|A1:‹T[a]|A1:‹f(1)|S!A1:‹S!A2|A1:‹-|‹:A1|A1‹ B2|`+
		`f(‹|f(1‹|f(1,‹|f(1,‹)|f(‹,1)|f(1,‹,2)|f(1‹;2)|f()‹ 1|f(1‹ 2)|f(1)(‹|f(1)(2,‹)|f(1)‹f(2)|f(1)‹ x|f()‹{|f(‹:)|f(1+‹)|`+
		`{‹|{‹}|{1‹|{1,‹}|{1;‹}|{‹,1}|{‹;}|{‹A1}|{‹x}|{‹#REF!}|{‹f()}|{‹(1)}|{‹+1}|{-‹}|{-‹-1}|{-‹"a"}|{-‹TRUE}|{-‹x}|{1‹+2}|{1‹%}|{1‹:2}|{‹{1}}|{1‹)|{1,2;3‹}|{1,2;3‹;4,5}|{1;2‹,3}|{1,2;3,4‹,5}|{1,2;3,4;5‹}|{1;2;3‹,|{1,2;3‹|{1,2;3,4‹|{1;‹|{1,2;‹}|{‹T[a]}|`+
		`LAMBDA(‹|LAMBDA(‹)|LAMBDA(x‹|LAMBDA(x,‹|LAMBDA(x,‹)|LAMBDA(x,y,‹)|LAMBDA(1‹,x)|LAMBDA(A1‹,x)|LAMBDA((x)‹,1)|LAMBDA(x+1‹,2)|LAMBDA(x,1‹,2)|LAMBDA(x,x‹,1)|LAMBDA(x,y,X‹,1)|LAMBDA(x,-x‹,1)|LAMBDA(‹,x)|LAMBDA(x‹;1)|LAMBDA(x,1‹|LAMBDA(TRUE‹,1)|LAMBDA(x‹ (1),2)|LAMBDA(x,1)‹,|`+
		`LET(‹|LET(‹)|LET(‹1,2,3)|LET(‹A1,2,3)|LET(‹(x),1,2)|LET(‹f(x),1,2)|LET(‹TRUE,1,2)|LET(x‹|LET(x‹)|LET(x‹+1,2)|LET(x‹ (1))|LET(x,‹|LET(x,‹)|LET(x,1‹|LET(x,1‹)|LET(x,1,‹|LET(x,1,‹)|LET(x,1,2‹,3)|LET(x,1,2‹|LET(x,1,y‹|LET(x,1,y,‹)|LET(x,1,y,2‹)|LET(x,1,y,2,‹)|LET(x,1,y,2,3‹,4)|LET(x,1,x‹,2,3)|LET(x,1,y,2,X‹,3,4)|LET(x,1,(y)‹,2,3)|LET(x,1,y+1‹,2)|LET(x,1,A1‹,2)|LET(x‹;1,2)|LET(‹,x)|LET(x,y,‹,z)|LET(x,y‹)|LET(‹-x,1,2)|LET(x,1,x)‹ x`, "|") {
		before, behind, _ := strings.Cut(marked, "‹")
		s := before + behind
		at := len(before) + len(behind) - len(strings.TrimLeft(behind, " "))
		want := len(tokens(t, before))
		n, got, err := tree.Parse(tokens(t, s))
		refused(t, "Parse of "+s, n, got, err, want, api.ErrTree)
		n, got, err = tree.Read(s)
		refused(t, "Read of "+s, n, got, err, at, api.ErrTree)
		if behind != "" {
			for _, more := range []string{" 1", ")", " x,1)", "}"} {
				n, got, err = tree.Read(s + more)
				refused(t, "Read of "+s+more, n, got, err, at, api.ErrTree)
			}
		}
	}
}

// P5.3: pieces as no formula has them.
func TestParseOdd(t *testing.T) {
	one, plus := api.Tok{Kind: api.TkNum, S: "1"}, api.Tok{Kind: api.TkSign, S: "+"}
	open, comma := api.Tok{Kind: api.TkSign, S: "("}, api.Tok{Kind: api.TkSign, S: ","}
	long := strings.Repeat("n", 31)
	wrong := map[int][]string{
		api.TkNum:   {"", "-1", "x", "1.", ".5", "1 ", "0.0000000001", "1234567890123456"},
		api.TkText:  {"\x00", "\xff", "\x7f", "a\n", strings.Repeat("x", 201)},
		api.TkTruth: {"", "yes", "1", "TRUE ", "'true", "#N/A", "truſe"},
		api.TkFault: {"", "#REF!", "#ref!", "#X", "#N/A ", "TRUE", "'#N/A", "1"},
		api.TkRef:   {"", "x", "A0", "#ref!", "A1:B2", "BA1", "S!", " A1"},
		api.TkName:  {"", "A1", "TRUE", "true", "1a", "a b", "$a", "x,y", long},
		api.TkCall:  {"", "1a", ".a", "$A", "a b", "a(", "é", "a\xff", long},
		api.TkSign:  {"", " ", "!", "[", "==", "><", "1", "x", "()", "+ ", "?"},
		api.TkCol:   {"", "T", "T[]", "T[a", "A1[a]", "T[a]b", "T[[a]", "T[" + long + "]"},
		0:           {"", "1"}, 10: {"1"}, -1: {"1", "x"}, 1 << 40: {"1"},
	}
	for kind, list := range wrong {
		for _, s := range list {
			tok := api.Tok{Kind: kind, S: s, At: 77}
			what := "Parse of the kind " + strconv.Itoa(kind) + " and " + strconv.Quote(s)
			for i, l := range [][]api.Tok{{tok}, {tok, open, one}, {tok, comma, one}, {one, tok}, {one, plus, tok}, {{Kind: api.TkCall, S: "F"}, open, tok}, {{Kind: api.TkCall, S: "LAMBDA"}, open, tok, comma}, {{Kind: api.TkCall, S: "LET"}, open, tok, comma, one, comma, one}, {{Kind: api.TkSign, S: "{"}, tok}, {{Kind: api.TkRef, S: "A1"}, {Kind: api.TkSign, S: ":"}, tok}} {
				want := []int{0, 0, 0, 1, 2, 2, 2, 2, 1, 2}[i]
				n, at, err := tree.Parse(l)
				refused(t, what+" "+strconv.Itoa(i), n, at, err, want, api.ErrTree)
			}
		}
	}
	for _, c := range []struct {
		tok  api.Tok
		want api.Node
	}{
		{api.Tok{Kind: api.TkNum, S: "-0", At: -5}, num(0)}, {api.Tok{Kind: api.TkNum, S: "007.50"}, api.Node{Kind: api.NNum, N: api.Dec{M: 75, E: -1}}}, {api.Tok{Kind: api.TkText, S: strings.Repeat("x", 200)}, text(strings.Repeat("x", 200))},
		{api.Tok{Kind: api.TkTruth, S: "true"}, truth(true)}, {api.Tok{Kind: api.TkTruth, S: "fALSE"}, truth(false)}, {api.Tok{Kind: api.TkFault, S: "#div/0!"}, fault(2)}, {api.Tok{Kind: api.TkFault, S: "#SpIlL!"}, fault(8)},
		{api.Tok{Kind: api.TkRef, S: "'S'!a1"}, cell(api.Ref{Sheet: "S"})}, {api.Tok{Kind: api.TkRef, S: "#REF!"}, cell(api.Ref{Bad: true})}, {api.Tok{Kind: api.TkName, S: "Rate"}, name("Rate")}, {api.Tok{Kind: api.TkCol, S: "T[#]"}, column("T[#]")},
	} {
		if n, at, err := tree.Parse([]api.Tok{c.tok}); !tree.Same(n, c.want) || at != 0 || err != api.OK {
			t.Errorf("Parse of %v: %s, %d, error %d; want %s", c.tok, spelt(n), at, err, spelt(c.want))
		}
	}
	n, at, err := tree.Parse([]api.Tok{{Kind: api.TkCall, S: "F"}})
	refused(t, "Parse of a call alone", n, at, err, 1, api.ErrTree)
	n, at, err = tree.Parse([]api.Tok{{Kind: api.TkCall, S: "F"}, one})
	refused(t, "Parse of a call and no parenthesis", n, at, err, 1, api.ErrTree)
	n, at, err = tree.Parse([]api.Tok{{Kind: api.TkCall, S: "F"}, {Kind: api.TkText, S: "("}})
	refused(t, "Parse of a call and a text", n, at, err, 1, api.ErrTree)
}

// P5.3: trees that are too deep, or too large; what can't stand in them is told first.
func TestParseLimits(t *testing.T) {
	sign := func(s string) api.Tok { return api.Tok{Kind: api.TkSign, S: s} }
	repeat := func(n int, l ...api.Tok) []api.Tok {
		var list []api.Tok
		for range n {
			list = append(list, l...)
		}
		return list
	}
	one := api.Tok{Kind: api.TkNum, S: "1"}
	f := []api.Tok{{Kind: api.TkCall, S: "f"}, sign("(")}
	x := api.Tok{Kind: api.TkName, S: "x"}
	join := func(parts ...[]api.Tok) []api.Tok {
		var list []api.Tok
		for _, p := range parts {
			list = append(list, p...)
		}
		return list
	}
	for name, c := range map[string]struct {
		l  []api.Tok
		ok bool
	}{
		"20 deep by signs":       {join(repeat(19, sign("-")), repeat(1, one)), true},
		"21 deep by signs":       {join(repeat(20, sign("-")), repeat(1, one)), false},
		"50001 deep by signs":    {join(repeat(50000, sign("-")), repeat(1, one)), false},
		"20 deep by percents":    {join(repeat(1, one), repeat(19, sign("%"))), true},
		"21 deep by percents":    {join(repeat(1, one), repeat(20, sign("%"))), false},
		"20 deep to the left":    {join(repeat(19, one, sign("+")), repeat(1, one)), true},
		"21 deep to the left":    {join(repeat(20, one, sign("+")), repeat(1, one)), false},
		"50000 to the left":      {join(repeat(50000, one, sign("&")), repeat(1, one)), false},
		"20 deep by calls":       {join(repeat(19, f...), repeat(1, one), repeat(19, sign(")"))), true},
		"21 deep by calls":       {join(repeat(20, f...), repeat(1, one), repeat(20, sign(")"))), false},
		"20 deep by applying":    {join(f, repeat(1, sign(")")), repeat(19, sign("("), sign(")"))), true},
		"21 deep by applying":    {join(f, repeat(1, sign(")")), repeat(20, sign("("), sign(")"))), false},
		"200 nodes":              {join(f, repeat(198, one, sign(",")), repeat(1, one, sign(")"))), true},
		"201 nodes":              {join(f, repeat(199, one, sign(",")), repeat(1, one, sign(")"))), false},
		"100001 nodes":           {join(f, repeat(99999, one, sign(",")), repeat(1, one, sign(")"))), false},
		"200 nodes of an array":  {join(repeat(1, sign("{")), repeat(198, one, sign(";")), repeat(1, one, sign("}"))), true},
		"201 nodes of an array":  {join(repeat(1, sign("{")), repeat(199, one, sign(";")), repeat(1, one, sign("}"))), false},
		"199 nodes and a minus":  {join(repeat(1, sign("{")), repeat(197, one, sign(",")), repeat(1, sign("-"), one, sign("}"))), true},
		"200 nodes and a minus":  {join(repeat(1, sign("{")), repeat(198, one, sign(",")), repeat(1, sign("-"), one, sign("}"))), false},
		"200 nodes of a let":     {join(tokens(t, "let(x,f("), repeat(195, one, sign(",")), repeat(1, one, sign(")"), sign(","), x, sign(")"))), true},
		"202 nodes of a let":     {join(tokens(t, "let(x,f("), repeat(197, one, sign(",")), repeat(1, one, sign(")"), sign(","), x, sign(")"))), false},
		"many parentheses":       {join(repeat(60000, sign("(")), repeat(1, one), repeat(60000, sign(")"))), true},
		"many in an application": {join(repeat(30000, sign("(")), repeat(1, x), repeat(30000, sign(")")), repeat(1, sign("("), sign(")"))), true},
	} {
		n, at, err := tree.Parse(c.l)
		if c.ok && (at != 0 || err != api.OK || !tree.Right(n)) {
			t.Errorf("%s: %d, error %d", name, at, err)
		}
		if !c.ok {
			refused(t, name, n, at, err, len(c.l), api.ErrDeep)
		}
		n, at, err = tree.Parse(c.l[:len(c.l)-1])
		if last := c.l[len(c.l)-1]; last.S == ")" || last.S == "}" {
			refused(t, name+", cut off", n, at, err, len(c.l)-1, api.ErrTree)
		}
		l := join(c.l, repeat(1, sign(";")))
		n, at, err = tree.Parse(l)
		refused(t, name+", and a semicolon", n, at, err, len(l)-1, api.ErrTree)
	}
	n, at, err := tree.Read(strings.Repeat("-", 20) + "1  ")
	refused(t, "Read of what is too deep", n, at, err, 23, api.ErrDeep)
	n, at, err = tree.Parse(repeat(60000, sign("(")))
	refused(t, "Parse of parentheses that are not closed", n, at, err, 60000, api.ErrTree)
}

// P5.4: Read tells chapter 4's errors first.
func TestReadWrong(t *testing.T) {
	for s, want := range map[string]int{"1+?": 2, ") ?": 2, "1.": 1, "\"a": 0, strings.Repeat("(", 201): 200, "é": 0, "f(1)) $": 6} {
		n, at, err := tree.Read(s)
		refused(t, "Read of "+s, n, at, err, want, api.ErrLex)
	}
	for s, want := range map[string]int{"": 0, "   ": 3, "1 +  ": 5, " f( ": 4, "  )": 2, "f(1)  g": 6, strings.Repeat("(", 200): 200} {
		n, at, err := tree.Read(s)
		refused(t, "Read of "+s, n, at, err, want, api.ErrTree)
	}
}

// P5.3: many lists of pieces, held against a grammar.
func TestParseNear(t *testing.T) {
	toks := map[string]api.Tok{"num": {Kind: api.TkNum, S: "1"}, "text": {Kind: api.TkText, S: "a"}, "truth": {Kind: api.TkTruth, S: "TRUE"}, "fault": {Kind: api.TkFault, S: "#N/A"}, "ref": {Kind: api.TkRef, S: "A1"}, "bad": {Kind: api.TkRef, S: "#REF!"}, "col": {Kind: api.TkCol, S: "T[a]"}, "call": {Kind: api.TkCall, S: "f"}, "lambda": {Kind: api.TkCall, S: "Lambda"}, "let": {Kind: api.TkCall, S: "let"}}
	words := strings.Fields("num num text truth fault ref ref bad name name name col call lambda let let = <> & + - - * ^ % % ( ( ( ) ) ) ) , , , , : : { { } }")
	made := func(pieces []string) []api.Tok {
		var l []api.Tok
		for i, p := range pieces {
			tok, ok := toks[p]
			switch {
			case p == "name":
				tok = api.Tok{Kind: api.TkName, S: "x_" + strconv.Itoa(i)}
			case !ok:
				tok = api.Tok{Kind: api.TkSign, S: p}
			}
			l = append(l, tok)
		}
		return l
	}
	d := dice(3)
	seeds := []string{"num + num", "call ( num , name )", "lambda ( name , name , name )", "let ( name , num , name , num , name )", "( name ) ( num ) ( )", "{ num , - num , text }", "ref : ref % ^ - num", "let ( name , lambda ( name , name ) , call ( ) ( ref ) )"}
	right := 0
	for range 12000 {
		pieces := strings.Fields(seeds[d.below(len(seeds))])
		for range d.below(5) {
			i := d.below(len(pieces) + 1)
			word := words[d.below(len(words))]
			switch d.below(4) {
			case 0:
				pieces = append(pieces[:i:i], append([]string{word}, pieces[i:]...)...)
			case 1:
				pieces = append(pieces[:i:i], append(strings.Fields(seeds[d.below(len(seeds))]), pieces[min(i+1, len(pieces)):]...)...)
			case 2:
				pieces = append(pieces[:i:i], pieces[min(i+1, len(pieces)):]...)
			default:
				pieces = append(append(pieces[:i:i], word), pieces[min(i+1, len(pieces)):]...)
			}
		}
		want := firstWrong(pieces)
		n, at, err := tree.Parse(made(pieces))
		if want < 0 {
			right++
			if at != 0 || err != api.OK || !tree.Right(n) {
				t.Fatalf("Parse of %v: %d, error %d", pieces, at, err)
			}
			continue
		}
		if at != want || err != api.ErrTree || !tree.Same(n, api.Node{}) {
			t.Fatalf("Parse of %v: %d, error %d; want ErrTree at %d", pieces, at, err, want)
		}
	}
	if right < 2000 {
		t.Errorf("only %d lists are right", right)
	}
}
