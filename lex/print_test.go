package lex_test

import (
	"slices"
	"strings"
	"testing"

	"tabula/api"
	"tabula/lex"
)

func checkPrint(t *testing.T, l []api.Tok, want string) {
	t.Helper()
	if s, err := lex.Print(l); s != want || err != api.OK {
		t.Errorf("Print(%v): %q, error %d; want %q", l, s, err, want)
	}
}

func refusePrint(t *testing.T, l []api.Tok) {
	t.Helper()
	if s, err := lex.Print(l); s != "" || err != api.ErrLex {
		t.Errorf("Print(%v): %q, error %d; want ErrLex", l, s, err)
	}
}

// P4.3: where blanks stand.
func TestPrint(t *testing.T) {
	checkPrint(t, nil, "")
	checkPrint(t, list("call", 7, "sum", "sign", -1, "(", "ref", 0, "$A1", "sign", 0, ":", "ref", 0, "b2", "sign", 0, ")", "sign", 0, "*", "sign", 0, "-", "num", 0, "1.50"), "sum($A1:b2)*-1.50")
	checkPrint(t, list("text", 0, `a"b`, "text", 0, "", "text", 0, "=<>"), `"a""b" "" "=<>"`)
	one := list("num", 0, "1", "text", 0, "x", "truth", 0, "TRUE", "fault", 0, "#N/A", "ref", 0, "A1", "ref", 0, "#REF!", "ref", 0, "'S'!a1", "name", 0, "x", "col", 0, "T[a]")
	for _, a := range one {
		for _, b := range one {
			x, _ := lex.Print([]api.Tok{a})
			y, _ := lex.Print([]api.Tok{b})
			checkPrint(t, []api.Tok{a, b}, x+" "+y)
		}
		x, _ := lex.Print([]api.Tok{a})
		for _, s := range strings.Fields("<> <= >= = < > & + - * / ^ % ( ) , ; : { }") {
			sign := list("sign", 0, s)[0]
			checkPrint(t, []api.Tok{sign, a}, s+x)
			if s == "(" && (a.Kind == api.TkName || a.Kind == api.TkTruth || a.Kind == api.TkRef) {
				checkPrint(t, []api.Tok{a, sign}, x+" (")
			} else {
				checkPrint(t, []api.Tok{a, sign}, x+s)
			}
		}
		checkPrint(t, append([]api.Tok{a}, list("call", 0, "A1", "sign", 0, "(")...), x+" A1(")
	}
	for _, a := range strings.Fields("<> <= >= = < > & + - * / ^ % ( ) , ; : { }") {
		for _, b := range strings.Fields("<> <= >= = < > & + - * / ^ % ( ) , ; : { }") {
			want := a + b
			if a == "<" && (b[0] == '=' || b[0] == '>') || a == ">" && b[0] == '=' {
				want = a + " " + b
			}
			checkPrint(t, list("sign", 0, a, "sign", 0, b), want)
		}
		if a != "(" {
			refusePrint(t, list("call", 0, "f", "sign", 0, a))
		}
	}
	checkPrint(t, list("sign", 0, "<", "text", 0, "="), `<"="`)
	checkPrint(t, list("sign", 0, "<", "text", 0, ">"), `<">"`)
}

// P4.3: pieces that no formula has.
func TestPrintWrong(t *testing.T) {
	long, most := strings.Repeat("n", 31), strings.Repeat("n", 30)
	for _, l := range [][]api.Tok{
		list("num", 0, ""), list("num", 0, "-1"), list("num", 0, "1."), list("num", 0, " 1"), list("num", 0, "1 "), list("num", 0, "1 2"), list("num", 0, "x"), list("num", 0, "A1"), list("num", 0, "1234567890123456"), list("num", 0, "\"1\""),
		list("text", 0, "\x00"), list("text", 0, "\xff"), list("text", 0, strings.Repeat("x", 199)), list("text", 0, strings.Repeat("\"", 100)),
		list("truth", 0, "true"), list("truth", 0, "True"), list("truth", 0, ""), list("truth", 0, "YES"), list("truth", 0, "TRUE "), list("truth", 0, "1"),
		list("fault", 0, "#n/a"), list("fault", 0, "#REF!"), list("fault", 0, ""), list("fault", 0, "#X"), list("fault", 0, "#N/A#N/A"),
		list("ref", 0, "x"), list("ref", 0, "A0"), list("ref", 0, "#ref!"), list("ref", 0, "A1:B2"), list("ref", 0, ""), list("ref", 0, " A1"), list("ref", 0, "S!#REF!"),
		list("name", 0, "A1"), list("name", 0, "TRUE"), list("name", 0, ""), list("name", 0, "1a"), list("name", 0, "x "), list("name", 0, "x+y"), list("name", 0, long), list("name", 0, "T[a]"), list("name", 0, "$x"),
		list("col", 0, "T"), list("col", 0, "T[]"), list("col", 0, "T[a]b"), list("col", 0, "A1[a]"), list("col", 0, ""), list("col", 0, "T[a][b]"), list("col", 0, "T["+long+"]"),
		list("sign", 0, ""), list("sign", 0, " "), list("sign", 0, "=="), list("sign", 0, "!"), list("sign", 0, "["), list("sign", 0, "()"), list("sign", 0, "1"), list("sign", 0, "+ "), list("sign", 0, "."), list("sign", 0, "><"),
		{{Kind: 0}, {Kind: 0, S: "1"}}, {{Kind: 0, S: "1"}}, {{Kind: 10, S: "1"}}, {{Kind: -1, S: "1"}}, {{Kind: 0, S: ""}},
	} {
		refusePrint(t, l)
		refusePrint(t, append(list("num", 0, "1", "sign", 0, "+"), l...))
		refusePrint(t, append(slices.Clone(l), list("sign", 0, "+", "num", 0, "1")...))
		if l[0].Kind == api.TkName {
			refusePrint(t, append(slices.Clone(l), list("sign", 0, "(")...))
		}
	}
	for _, s := range []string{"", "1", "$a", "a b", " a", "a ", "a(", long, "a!A1", "é", "T[a]", "#N/A", "a+b", "f(g"} {
		refusePrint(t, list("call", 0, s, "sign", 0, "("))
	}
	refusePrint(t, list("call", 0, "f"))
	refusePrint(t, list("call", 0, "f", "num", 0, "1"))
	refusePrint(t, list("call", 0, "f", "text", 0, "("))
	refusePrint(t, list("call", 0, "f", "call", 0, "g", "sign", 0, "("))
	refusePrint(t, list("sign", 0, "(", "call", 0, "f"))
	checkPrint(t, list("call", 0, most, "sign", 0, "("), most+"(")
	checkPrint(t, list("call", 0, "true", "sign", 0, "("), "true(")
}

// P4.3: as much as a formula may have.
func TestPrintLength(t *testing.T) {
	checkPrint(t, list("text", 0, strings.Repeat("x", 198)), `"`+strings.Repeat("x", 198)+`"`)
	checkPrint(t, list("text", 0, strings.Repeat(`"`, 99)), strings.Repeat(`"`, 200))
	var l []api.Tok
	for range 100 {
		l = append(l, list("num", 0, "1")[0])
	}
	checkPrint(t, l, strings.Repeat(" 1", 100)[1:])
	checkPrint(t, append(slices.Clone(l), list("sign", 0, ")")...), strings.Repeat(" 1", 100)[1:]+")")
	refusePrint(t, append(slices.Clone(l), list("sign", 0, ")", "sign", 0, ")")...))
	refusePrint(t, append(slices.Clone(l), list("num", 0, "1")...))
	for range 10 {
		l = append(l, l...)
	}
	refusePrint(t, l)
}

// P4.4: what is printed is told as the same pieces; blanks more make no difference; each piece stands where it says.
func TestPrintBack(t *testing.T) {
	d := dice(2)
	for range 100000 {
		s := d.some(d.below(9))
		l, _, err := lex.Tokens(s)
		if err != api.OK {
			continue
		}
		printed, err := lex.Print(l)
		back, _, again := lex.Tokens(printed)
		if last := len(l) - 1; last >= 0 && err == api.ErrLex && len(s) > 150 {
			continue
		}
		if err != api.OK || again != api.OK || !slices.EqualFunc(l, back, func(a, b api.Tok) bool { return a.Kind == b.Kind && a.S == b.S }) {
			t.Fatalf("Tokens(%q): %v; printed %q, error %d; told again %v", s, l, printed, err, back)
		}
		wide, shift := "", []int{}
		for i, tok := range l {
			if i > 0 && l[i-1].Kind != api.TkCall {
				wide += strings.Repeat(" ", 1+d.below(3))
			}
			shift = append(shift, len(wide))
			end := len(s)
			if i+1 < len(l) {
				end = l[i+1].At
			}
			wide += strings.TrimRight(s[tok.At:end], " ")
		}
		if strings.Contains(wide, " [") || len(wide) > 200 {
			continue
		}
		parted, _, err := lex.Tokens(wide)
		for i, tok := range parted {
			if err == api.OK && (len(parted) != len(l) || tok.At != shift[i] || tok.S != l[i].S) {
				t.Fatalf("Tokens(%q): %v; with blanks %q: %v", s, l, wide, parted)
			}
		}
		if err != api.OK {
			t.Fatalf("Tokens(%q): %v; with blanks %q: error %d", s, l, wide, err)
		}
	}
}
